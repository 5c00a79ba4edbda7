import PyProof.Rows.All
import Wide.All
import OpenK.AllK
import Wide.FinOn
import Lean
import PyProof.EqAt
import PyProof.EqKinds
import PyProof.TupleCall
import KE.KRevIter
import PyProof.ListRange
import PyProof.ZipIter
import PyProof.Rows.ZipGen
import KE.KDictSum
import KE.KRevSl
import PyProof.DictWalks
import PyProof.DictIter
import KE.KDictLaws
import PyProof.StrReplace2
import PyProof.CallStr
import PySem.Challenge.RW_stuckwire_k31_lean_of_doubled_circuits
set_option maxHeartbeats 0
open PySem.W (Frag fnOf keepIn codeIn nsIn mg_of)
set_option Elab.async false
set_option linter.all false
set_option maxRecDepth 100000
set_option bootstrap.genMatcherCode false
set_option compiler.extract_closed false
set_option genSizeOfSpec false
theorem PySem.W.Fast.te9524577734189053466 : True := trivial
theorem PySem.W.Fast.tw4372664168176983380 : True := trivial
theorem PySem.W.Fast.tw10785020479375134392 : True := trivial
theorem PySem.W.Fast.tw7928771667232251389 : True := trivial
namespace L2
open PySem PySem.Spec PyProof.Rows
noncomputable abbrev Key:=Sum Int Str
noncomputable def Z8m:Key -> Value -> Bool
  | .inl k,v=>Value.isInt k v
  | .inr x,v=>Value.isStrOf x v
noncomputable def keyH (w:World):Key -> Int
  | .inl k=>hashInt k
  | .inr x=>hashStr w x
theorem Z1h:∀ {k:Key} {v:Value},Z8m k v=true -> (∃ i t,k=Sum.inl i /\ v=Value.int i t) \/ (∃ x t,k=Sum.inr x /\ v=Value.str x t)
  | .inl i,v,h=>by
    obtain ⟨t,e⟩:=Value.isInt_shape (k:=i) (v:=v) h
    exact .inl ⟨i,t,rfl,e⟩
  | .inr x,v,h=>by
    obtain ⟨t,e⟩:=Value.isStrOf_shape (x:=x) (v:=v) h
    exact .inr ⟨x,t,rfl,e⟩
theorem ZaZ (i:Int) (t:Tok):Z8m (.inl i) (.int i t)=true:=by simp [Z8m,Value.isInt]
theorem ZaY (x:Str) (t:Tok):Z8m (.inr x) (.str x t)=true:=by simp [Z8m,Value.isStrOf]
theorem Zfd (a b:Int):decide ((Sum.inl a:Key)=Sum.inl b)=(a == b):=by
  by_cases e:a=b
  . subst e; simp
  . have h:¬ (Sum.inl a:Key)=Sum.inl b:=fun q=>e (Sum.inl.inj q)
    rw [decide_eq_false h]
    exact (beq_eq_false_iff_ne.mpr e).symm
theorem Zfa (a b:Str):decide ((Sum.inr a:Key)=Sum.inr b)=decide (a=b):=by
  by_cases e:a=b
  . subst e; simp
  . have h:¬ (Sum.inr a:Key)=Sum.inr b:=fun q=>e (Sum.inr.inj q)
    rw [decide_eq_false h,decide_eq_false e]
theorem Zfc (a:Int) (b:Str):decide ((Sum.inl a:Key)=Sum.inr b)=false:=decide_eq_false (fun q=>nomatch q)
theorem Zfb (a:Str) (b:Int):decide ((Sum.inr a:Key)=Sum.inl b)=false:=decide_eq_false (fun q=>nomatch q)
noncomputable def Z1U (prog:Program) (w:World):PySem.KeyKind prog w Key where
  is:=Z8m
  hash:=keyH w
  inj:=fun v a b ha hb=>by
    rcases Z1h ha with ⟨i,t,rfl,rfl⟩ | ⟨x,t,rfl,rfl⟩
    . rcases Z1h hb with ⟨j,u,rfl,e⟩ | ⟨y,u,rfl,e⟩
      . injection e with e1 _; rw [e1]
      . exact nomatch e
    . rcases Z1h hb with ⟨j,u,rfl,e⟩ | ⟨y,u,rfl,e⟩
      . exact nomatch e
      . injection e with e1 _; rw [e1]
  byValue:=fun k v h=>by
    rcases Z1h h with ⟨i,t,rfl,rfl⟩ | ⟨x,t,rfl,rfl⟩ <;> rfl
  pyHash:=fun hv h=>by
    rcases Z1h hv with ⟨i,t,rfl,rfl⟩ | ⟨x,t,rfl,rfl⟩
    . exact wpAny_pyHash_int h
    . exact wpAny_pyHash_str h
  eqBool:=fun hu hv h=>by
    rcases Z1h hu with ⟨i,t,rfl,rfl⟩ | ⟨x,t,rfl,rfl⟩
    . rcases Z1h hv with ⟨j,u,rfl,rfl⟩ | ⟨y,u,rfl,rfl⟩
      . rw [Zfd] at h; exact wpAny_eqBool_int h
      . rw [Zfc] at h; exact SeqAt.EqAt.int_str i t y u _ _ _ _ h
    . rcases Z1h hv with ⟨j,u,rfl,rfl⟩ | ⟨y,u,rfl,rfl⟩
      . rw [Zfb] at h; exact SeqAt.EqAt.str_int x t j u _ _ _ _ h
      . rw [Zfa] at h; exact wpAny_eqBool_str h
  «strs»:=fun k x t v h=>by
    rcases Z1h h with ⟨i,u,rfl,e⟩ | ⟨y,u,rfl,e⟩
    . exact nomatch e
    . injection e with e1 _
      subst e1
      cases v <;> rfl
theorem Z8i (prog:Program) (w:World) (i:Int) (t:Tok):(Z1U prog w).is (.inl i) (.int i t)=true:=ZaZ i t
theorem Z8h (prog:Program) (w:World) (x:Str) (t:Tok):(Z1U prog w).is (.inr x) (.str x t)=true:=ZaY x t
inductive V where
  | non | bl (b:Bool) | int (i:Int) | str (x:Str) | byt (b:Array UInt8) | flt (b:UInt64) | ref (a:Addr) | ty (n:String)
  deriving DecidableEq
noncomputable def RelV:V -> Value -> Prop
  | .non,u=>u=Value.none
  | .bl b,u=>u=Value.bool b
  | .int i,u=>∃ t,u=Value.int i t
  | .str x,u=>∃ t,u=Value.str x t
  | .byt b,u=>∃ t,u=Value.bytes b t
  | .flt b,u=>∃ t,u=Value.float b t
  | .ref a,u=>u=Value.ref a
  | .ty n,u=>u=Value.type n
noncomputable abbrev Vals:List V -> List Value -> Prop:=Paired RelV
theorem Vals.length {xs:List V} {us:List Value} (r:Vals xs us):xs.length=us.length:=Paired.length r
theorem Vals.get:∀ {xs:List V} {us:List Value} {i:Nat} {x:V},Vals xs us -> xs[i]? = some x -> ∃ u,us[i]? = some u /\ RelV x u
  | _,_,_,_,.nil,e=>by simp at e
  | _,_,0,_,.cons r _,e=>by simp at e; subst e; exact ⟨_,rfl,r⟩
  | _,_,i + 1,x,.cons _ t,e=>by
    obtain ⟨u,h1,h2⟩:=Vals.get (i:=i) (x:=x) t (by simpa using e)
    exact ⟨u,by simpa using h1,h2⟩
theorem Vals.set {x:V} {u:Value} (r:RelV x u):∀ {xs:List V} {us:List Value} (i:Nat),Vals xs us -> Vals (xs.set i x) (us.set i u)
  | _,_,_,.nil=>.nil
  | _,_,0,.cons _ t=>.cons r t
  | _,_,i + 1,.cons q t=>.cons q (Vals.set r i t)
theorem Vals.append:∀ {xs ys:List V} {us ws:List Value},Vals xs us -> Vals ys ws -> Vals (xs ++ ys) (us ++ ws)
  | _,_,_,_,.nil,s=>s
  | _,_,_,_,.cons r t,s=>.cons r (Vals.append t s)
theorem Vals.take:∀ {xs:List V} {us:List Value} (n:Nat),Vals xs us -> Vals (xs.take n) (us.take n)
  | _,_,0,_=>.nil
  | _,_,_ + 1,.nil=>.nil
  | _,_,n + 1,.cons r t=>.cons r (Vals.take n t)
theorem Vals.drop:∀ {xs:List V} {us:List Value} (n:Nat),Vals xs us -> Vals (xs.drop n) (us.drop n)
  | _,_,0,r=>r
  | _,_,_ + 1,.nil=>.nil
  | _,_,n + 1,.cons _ t=>Vals.drop n t
noncomputable def RelO:Option V -> Option Value -> Prop
  | some v,some u=>RelV v u
  | none,none=>True
  | _,_=>False
noncomputable def KV {κ:Type}:List (κ × V) -> List (κ × Value) -> Prop:=Paired fun (p:κ × V) (q:κ × Value)=>p.1=q.1 /\ RelV p.2 q.2
noncomputable def kV:Key -> V
  | .inl i=>.int i
  | .inr x=>.str x
inductive HO where
  /-- a list -/
  | lst (xs:List V)
  /-- a tuple (never changes) -/
  | tup (xs:List V)
  /-- a dict whose keys are ints and texts; one whose keys are tuples of ints and texts (the empty one is both) -/
  | dK (kvs:List (Key × V)) | dT (kvs:List (List Key × V))
  /-- a set of ints: its members,its size -/
  | set (S:Int -> Bool) (n:Nat)
  /-- an instance of the class at C,its dict at dx,its attributes -/
  | ins (C dx:Addr) (fs:List (Str × V))
  /-- the dict of the instance at x -/
  | own (x:Addr)
  /-- the dict of an exception -/
  | xd (fs:List (Str × V))
  /-- a bound method,f of x -/
  | met (f x:Addr)
  /-- a range object lo,lo + 1,.. below hi -/
  | rng (lo hi:Int)
  /-- a thing that is known to the object (the script; a dict while a loop walks it): read,never written while it is so -/
  | frz (o:Obj) (u:HO)
  /-- a code object's table -/
  | tbl (ps:Array Value)
  /-- any other thing,by what is true of its one object (a def of one's own: SetO a S n:=HO.ext fun h=>..) -/
  | ext (φ:Heap -> Prop)
noncomputable abbrev Hp:=Addr -> Option HO
noncomputable def upd (H:Hp) (a:Addr) (o:HO):Hp:=fun b=>if b=a then some o else H b
theorem Z0A {H:Hp} {a:Addr} {o:HO}:upd H a o a=some o:=by unfold upd; rw [if_pos rfl]
theorem Z0u {H:Hp} {a b:Addr} {o:HO} (h:b ≠ a):upd H a o b=H b:=by unfold upd; rw [if_neg h]
theorem ZfX {H:Hp} {a b:Addr} {o u:HO} (h:H a=some o) (h':H b=some u) (d:o ≠ u):a ≠ b:=by
  intro e; subst e; rw [h] at h'; exact d (Option.some.inj h')
theorem Z0s {H:Hp} {a b:Addr} {o:HO} (h:H a=some o) (h':H b=none):a ≠ b:=by
  intro e; subst e; rw [h] at h'; cases h'
section
variable (P:Program) (w:World)
noncomputable def ObjOk (H:Hp) (h:Heap) (a:Addr):HO -> Prop
  | .lst xs=>xs.length <= sizeLine /\ ∃ (its:List Value) (n:Nat),Vals xs its /\ h.get? a=some { cls:=.type "list",data:=.seq its.toArray n }
  | .tup xs=>xs.length <= sizeLine /\ ∃ its:List Value,Vals xs its /\ IsTup h a its.toArray
  | .dK kvs=>kvs.length <= sizeLine /\ (a == sysModules)=false /\ ∃ vs,KV kvs vs /\ h.DictOf (Z1U P w) a vs
  | .dT kvs=>kvs.length <= sizeLine /\ (a == sysModules)=false /\ ∃ xs:List (List Key × Addr × Value),
      Paired (fun (p:List Key × V) (q:List Key × Addr × Value)=>p.1=q.1 /\ H q.2.1=some (.tup (p.1.map kV)) /\ RelV p.2 q.2.2) kvs xs /\
      ∃ o es ep,h.get? a=some o /\ o.ExactDict /\ o.data=.dict es ep /\ es.toList=xs.map (entryOfKey (tupleKind (Z1U P w))) /\ (xs.map (·.1)).Nodup
  | .set S n=>h.SetOf (intKind P w) a S n
  | .ins C dx fs=>H dx=some (.own a) /\ fs.length <= 1000 /\ dx ≠ a /\ h.get? a=some (PySem.W.instObj C dx) /\
      ∃ mA,h.Ns1 dx mA /\ (∀ f,RelO (fs.lookup f) (mA f)) /\ PySem.Within mA (fs.map (·.1))
  | .own _=>∃ o,h.get? a=some o
  | .xd fs=>∃ mA,h.Ns1 a mA /\ ∀ f,RelO (fs.lookup f) (mA f)
  | .rng lo hi=>∃ t u v,h.get? a=some { cls:=.type "range",data:=.fields #[.int lo t,.int hi u,.int 1 v] }
  | .frz o u=>h.get? a=some o /\ ObjOk H h a u
  | .tbl ps=>h.get? a=some { cls:=.none,data:=.fields ps }
  | .met f x=>h.get? a=some (PySem.W.methodObj (.ref f) (.ref x))
  | .ext φ=>φ h /\ (∃ o,h.get? a=some o) /\ ∀ h1 h2:Heap,φ h1 -> (∀ o,h1.get? a=some o -> h2.get? a=some o) -> φ h2
noncomputable def HOk (H:Hp) (h:Heap):Prop:=∀ a o,H a=some o -> ObjOk P w H h a o
end
section
variable {P:Program} {w:World} {H H':Hp} {h h':Heap} {a:Addr} {o:HO}
theorem ObjOk.lt (x:ObjOk P w H h a o):a < h.objs.size:=by
  cases o with
  | lst xs=>obtain ⟨_,_,_,_,e⟩:=x; exact Heap.lt_size e
  | tup xs=>obtain ⟨_,_,_,p⟩:=x; exact p.lt
  | dK kvs=>obtain ⟨_,_,_,_,o,_,_,e,_⟩:=x; exact Heap.lt_size e
  | dT kvs=>obtain ⟨_,_,_,_,o,_,_,e,_⟩:=x; exact Heap.lt_size e
  | set S n=>obtain ⟨o,_,_,_,e,_⟩:=x; exact Heap.lt_size e
  | ins C dx fs=>obtain ⟨_,_,_,e,_⟩:=x; exact Heap.lt_size e
  | own y=>obtain ⟨_,e⟩:=x; exact Heap.lt_size e
  | xd fs=>obtain ⟨_,⟨_,_,_,e,_⟩,_⟩:=x; exact Heap.lt_size e
  | rng lo hi=>obtain ⟨_,_,_,e⟩:=x; exact Heap.lt_size e
  | frz ob u=>obtain ⟨e,_⟩:=x; exact Heap.lt_size e
  | tbl ps=>exact Heap.lt_size (show h.get? a=some _ from x)
  | met f y=>exact Heap.lt_size (show h.get? a=some _ from x)
  | ext φ=>obtain ⟨_,⟨_,e⟩,_⟩:=x; exact Heap.lt_size e
theorem Paired.mapP {α β:Type} {F G:α -> β -> Prop}:∀ {l₁:List α} {l₂:List β},Paired F l₁ l₂ -> (∀ a b,F a b -> G a b) -> Paired G l₁ l₂
  | _,_,.nil,_=>.nil
  | _,_,.cons r t,f=>.cons (f _ _ r) (Paired.mapP t f)
theorem ObjOk.stay (x:ObjOk P w H h a o) (k:∀ b u,(b=a \/ H b=some (.own a)) -> h.get? b=some u -> h'.get? b=some u)
    (ho:∀ b,H b=some (.own a) -> H' b=some (.own a)) (ht:∀ b xs,H b=some (.tup xs) -> H' b=some (.tup xs)):ObjOk P w H' h' a o:=by
  induction o with
  | lst xs=>obtain ⟨z,its,n,r,e⟩:=x; exact ⟨z,its,n,r,k _ _ (.inl rfl) e⟩
  | tup xs=>obtain ⟨z,its,r,ob,e,c⟩:=x; exact ⟨z,its,r,ob,k _ _ (.inl rfl) e,c⟩
  | dK kvs=>obtain ⟨z,y,vs,r,ob,es,ep,e,c⟩:=x; exact ⟨z,y,vs,r,ob,es,ep,k _ _ (.inl rfl) e,c⟩
  | dT kvs =>
    obtain ⟨z,y,xs,r,ob,es,ep,e,c⟩:=x
    exact ⟨z,y,xs,Paired.mapP r fun p q z=>⟨z.1,ht _ _ z.2.1,z.2.2⟩,ob,es,ep,k _ _ (.inl rfl) e,c⟩
  | set S n=>obtain ⟨ob,es,ep,t,e,c⟩:=x; exact ⟨ob,es,ep,t,k _ _ (.inl rfl) e,c⟩
  | ins C dx fs =>
    obtain ⟨d,z,ne,e,mA,⟨od,es,ep,e2,c⟩,r⟩:=x
    exact ⟨ho _ d,z,ne,k _ _ (.inl rfl) e,mA,⟨od,es,ep,k _ _ (.inr d) e2,c⟩,r⟩
  | own y=>obtain ⟨ob,e⟩:=x; exact ⟨ob,k _ _ (.inl rfl) e⟩
  | xd fs=>obtain ⟨mA,⟨od,es,ep,e,c⟩,r⟩:=x; exact ⟨mA,⟨od,es,ep,k _ _ (.inl rfl) e,c⟩,r⟩
  | rng lo hi=>obtain ⟨t,u,v,e⟩:=x; exact ⟨t,u,v,k _ _ (.inl rfl) e⟩
  | frz ob u ih=>obtain ⟨e,q⟩:=x; exact ⟨k _ _ (.inl rfl) e,ih q⟩
  | tbl ps =>
    have e:h.get? a=some { cls:=.none,data:=.fields ps }:=x
    show h'.get? a=some { cls:=.none,data:=.fields ps }
    exact k a _ (.inl rfl) e
  | met f y =>
    have e:h.get? a=some (PySem.W.methodObj (.ref f) (.ref y)):=x
    show h'.get? a=some (PySem.W.methodObj (.ref f) (.ref y))
    exact k a _ (.inl rfl) e
  | ext φ=>obtain ⟨p,⟨o,e⟩,st⟩:=x; exact ⟨st _ _ p fun o q=>k _ _ (.inl rfl) q,⟨o,k _ _ (.inl rfl) e⟩,st⟩
theorem HOk.lt (x:HOk P w H h) (e:H a=some o):a < h.objs.size:=(x a o e).lt
theorem HOk.fresh (x:HOk P w H h) (e:h.objs.size <= a):H a=none:=by
  cases q:H a with
  | none=>rfl
  | some u=>exact absurd (Nat.lt_of_lt_of_le (x.lt q) e) (Nat.lt_irrefl _)
theorem HOk.kept (x:HOk P w H h) (k:∀ b u,h.get? b=some u -> h'.get? b=some u):HOk P w H h':=fun a o e =>
  (x a o e).stay (fun b u _ q=>k b u q) (fun _ q=>q) fun _ _ q=>q
theorem HOk.laid (x:HOk P w H h) (k:∀ b u,h.get? b=some u -> h'.get? b=some u) (hp:h.objs.size <= a) (new:ObjOk P w (upd H a o) h' a o):HOk P w (upd H a o) h':=fun b u e=>by
  have hn:=x.fresh hp
  by_cases hb:b=a
  . subst hb; rw [Z0A] at e; cases e; exact new
  . rw [Z0u hb] at e
    exact (x b u e).stay (fun c v _ q=>k c v q) (fun c q=>by rw [Z0u (Z0s q hn)]; exact q) fun c xs q=>by rw [Z0u (Z0s q hn)]; exact q
end
noncomputable def Rd (H:Hp) (a:Addr) (u:HO):Prop:=H a=some u \/ ∃ o,H a=some (.frz o u)
theorem Rd.of {H:Hp} {a:Addr} {u:HO} (h:H a=some u):Rd H a u:=.inl h
theorem Rd.ok {P:Program} {w:World} {H:Hp} {h:Heap} {a:Addr} {u:HO} (r:Rd H a u) (x:HOk P w H h):ObjOk P w H h a u:=by
  rcases r with r | ⟨o,r⟩
  . exact x a u r
  . obtain ⟨_,q⟩:=x a _ r
    exact q
noncomputable def Mut:Option HO -> Prop
  | some (.lst _)=>True
  | some (.dK _)=>True
  | some (.dT _)=>True
  | some (.set _ _)=>True
  | some (.ins _ _ _)=>True
  | some (.ext _)=>True
  | _=>False
section
variable {P:Program} {w:World} {H:Hp} {h h':Heap} {x e:Addr} {o':HO}
theorem HOk.write (ok:HOk P w H h) (mu:Mut (H x)) (he:e=x \/ H e=some (.own x)) (k:∀ b u,b ≠ e -> h.get? b=some u -> h'.get? b=some u) (heo:∃ u,h'.get? e=some u)
    (new:ObjOk P w (upd H x o') h' x o'):HOk P w (upd H x o') h':=fun b u q=>by
  have nown:∀ c y,H c=some (.own y) -> c ≠ x:=fun c y r z=>by subst z; rw [r] at mu; exact mu
  have ntup:∀ c xs,H c=some (.tup xs) -> c ≠ x:=fun c xs r z=>by subst z; rw [r] at mu; exact mu
  by_cases hb:b=x
  . subst hb; rw [Z0A] at q; cases q; exact new
  . rw [Z0u hb] at q
    by_cases hbe:b=e
    . have q':H b=some (.own x):=by
        rcases he with z | z
        . exact absurd (hbe.trans z) hb
        . rw [hbe]; exact z
      rw [q] at q'; cases q'
      obtain ⟨v,hv⟩:=heo
      exact ⟨v,by rw [hbe]; exact hv⟩
    . refine (ok b u q).stay (fun c v hc r=>k c v ?_ r) (fun c r=>by rw [Z0u (nown c b r)]; exact r) fun c xs r=>by rw [Z0u (ntup c xs r)]; exact r
      rcases hc with rfl | hc
      . exact hbe
      . rintro rfl
        rcases he with z | z
        . exact nown c b hc z
        . rw [hc] at z; cases z; exact hb rfl
end
structure Un (fs ex:List Addr) (H H':Hp) (h h':Heap):Prop where
  keep:∀ b o,h.get? b=some o -> H b=none -> b ∉ fs -> b ∉ ex -> h'.get? b=some o
  slot:∀ b o,h.get? b=some o -> H b=none -> b ∈ fs -> b ∉ ex -> ∃ sl,h'.get? b=some { o with slots:=sl }
  free:∀ b o,h.get? b=some o -> H b=none -> b ∉ ex -> H' b=none
  there:∀ b o,h.get? b=some o -> b ∉ ex -> ∃ o',h'.get? b=some o'
  tups:∀ b xs,H b=some (.tup xs) -> H' b=some (.tup xs)
  frzs:∀ b o u,H b=some (.frz o u) -> H' b=some (.frz o u)
  tbls:∀ b ps,H b=some (.tbl ps) -> ∃ more,H' b=some (.tbl (ps ++ more))
section
variable {fs fs' ex ex':List Addr} {H H1 H2:Hp} {h h1 h2 h':Heap} {a x e:Addr} {o:HO}
theorem Un.any (u:Un fs ex H H1 h h1) {b:Addr} {ob:Obj} (q:h.get? b=some ob) (n:H b=none) (hx:b ∉ ex):∃ sl,h1.get? b=some { ob with slots:=sl }:=by
  by_cases hb:b ∈ fs
  . exact u.slot b ob q n hb hx
  . exact ⟨ob.slots,u.keep b ob q n hb hx⟩
theorem Un.trans (a:Un fs ex H H1 h h1) (b:Un fs ex H1 H2 h1 h2):Un fs ex H H2 h h2 where
  keep:=fun c ob q n hc hx=>b.keep c ob (a.keep c ob q n hc hx) (a.free c ob q n hx) hc hx
  slot:=fun c ob q n hc hx=>by
    obtain ⟨sl,e1⟩:=a.slot c ob q n hc hx
    obtain ⟨sl',e2⟩:=b.slot c _ e1 (a.free c ob q n hx) hc hx
    exact ⟨sl',e2⟩
  free:=fun c ob q n hx=>by
    obtain ⟨o',e1⟩:=a.there c ob q hx
    exact b.free c o' e1 (a.free c ob q n hx) hx
  there:=fun c ob q hx=>by
    obtain ⟨o',e1⟩:=a.there c ob q hx
    exact b.there c o' e1 hx
  tups:=fun c xs q=>b.tups c xs (a.tups c xs q)
  frzs:=fun c ob xs q=>b.frzs c ob xs (a.frzs c ob xs q)
  tbls:=fun c ps q=>by
    obtain ⟨m1,e1⟩:=a.tbls c ps q
    obtain ⟨m2,e2⟩:=b.tbls c _ e1
    exact ⟨m1 ++ m2,by rw [e2,Array.append_assoc]⟩
theorem Un.kept (k:∀ b u,h.get? b=some u -> h'.get? b=some u):Un fs ex H H h h' :=
  ⟨fun b ob q _ _ _=>k b ob q,fun b ob q _ _ _=>⟨ob.slots,k b ob q⟩,fun _ _ _ n _=>n,fun b ob q _=>⟨ob,k b ob q⟩,fun _ _ q=>q,fun _ _ _ q=>q,fun _ ps q=>⟨#[],by rw [q]; simp⟩⟩
theorem Un.refl:Un fs ex H H h h:=Un.kept fun _ _ q=>q
theorem Un.laid (k:∀ b u,h.get? b=some u -> h'.get? b=some u) (hp:h.objs.size <= a) (hn:H a=none):Un fs ex H (upd H a o) h h' where
  keep:=fun b u q _ _ _=>k b u q
  slot:=fun b u q _ _ _=>⟨u.slots,k b u q⟩
  free:=fun b u q n _=>by rw [Z0u (Nat.ne_of_lt (Nat.lt_of_lt_of_le (Heap.lt_size q) hp))]; exact n
  there:=fun b u q _=>⟨u,k b u q⟩
  tups:=fun b xs q=>by rw [Z0u (Z0s q hn)]; exact q
  frzs:=fun b u xs q=>by rw [Z0u (Z0s q hn)]; exact q
  tbls:=fun b ps q=>⟨#[],by rw [Z0u (Z0s q hn),q]; simp⟩
theorem Un.write (mu:Mut (H x)) (he:e=x \/ H e=some (.own x)) (k:∀ b u,b ≠ e -> h.get? b=some u -> h'.get? b=some u) (heo:∃ u,h'.get? e=some u):Un fs ex H (upd H x o) h h':=by
  have hx:∀ b,H b=none -> b ≠ x:=fun b n z=>by subst z; rw [n] at mu; exact mu
  have hb:∀ b,H b=none -> b ≠ e:=fun b n z=>by
    subst z
    rcases he with r | r
    . exact hx b n r
    . rw [n] at r; cases r
  have hm:∀ b u,H b=some u -> ¬ Mut (some u) -> b ≠ x:=fun b u q nm z=>by subst z; rw [q] at mu; exact nm mu
  refine ⟨fun b u q n _ _=>k b u (hb b n) q,fun b u q n _ _=>⟨u.slots,k b u (hb b n) q⟩,fun b u q n _=>by rw [Z0u (hx b n)]; exact n,fun b u q _=>?_,
    fun b xs q=>by rw [Z0u (hm b _ q fun z=>z)]; exact q,fun b u xs q=>by rw [Z0u (hm b _ q fun z=>z)]; exact q,fun b ps q=>⟨#[],by rw [Z0u (hm b _ q fun z=>z),q]; simp⟩⟩
  by_cases hbe:b=e
  . subst hbe; exact heo
  . exact ⟨u,k b u hbe q⟩
theorem Un.mono (u:Un fs ex H H1 h h1) (hs:∀ b ∈ fs,b ∈ fs') (hx:∀ b ∈ ex,b ∈ ex'):Un fs' ex' H H1 h h1 :=
  ⟨fun b ob q n hb he=>u.keep b ob q n (fun z=>hb (hs b z)) fun z=>he (hx b z),fun _ _ q n _ he=>u.any q n fun z=>he (hx _ z),fun b ob q n he=>u.free b ob q n fun z=>he (hx b z),fun b ob q he=>u.there b ob q fun z=>he (hx b z),u.tups,u.frzs,u.tbls⟩
end
noncomputable def trk (h:Heap) (H:Hp):List Addr:=(List.range h.objs.size).filter fun a=>(H a).isSome
noncomputable def hidT (h:Heap) (H:Hp):Heap:=PySem.W.hideAll h (trk h H)
theorem Zb6 (h:Heap) (H:Hp):(hidT h H).objs.size=h.objs.size:=PySem.W.hideAll_size _ _
theorem Zcw {h:Heap} {H:Hp} {b:Addr} {o:Obj} (e:h.get? b=some o) (n:H b=none):(hidT h H).get? b=some o :=
  PySem.W.hideAll_get _ e fun hm=>by
    have q:(H b).isSome=true:=(List.mem_filter.mp hm).2
    rw [n] at q; simp at q
theorem ZdZ {h:Heap} {H:Hp} {b:Addr} {o:Obj} (e:(hidT h H).get? b=some o):h.get? b=some o /\ H b=none:=by
  have e':h.get? b=some o:=PySem.W.of_hideAll (trk h H) e
  refine ⟨e',?_⟩
  cases q:H b with
  | none=>rfl
  | some x =>
    have hm:b ∈ trk h H:=List.mem_filter.mpr ⟨List.mem_range.mpr (Heap.lt_size e'),by simp [q]⟩
    have z:(hidT h H).get? b=none:=PySem.W.hideAll_none (trk h H) hm
    rw [z] at e; cases e
noncomputable def Zeq (g h:Heap) (L:Addr):List (Addr × Obj):=(List.range h.objs.size).filterMap fun a=>if a=L \/ (g.get? a).isSome=true then none else (h.get? a).map fun o=>(a,o)
noncomputable def rest (g h:Heap) (L d:Addr):List (Addr × Obj):=(Zeq g h L).filter fun p=>decide (p.1 ≠ d)
structure Mod (K:Frag) (mg:Str -> Option Value) (base:Heap):Prop where
  kin:K.In base
  glob:base.Ns mainGlobals mg
  blt:∃ mb,base.Ns builtinsNs mb /\ ∀ x:Str,x ≠ "__name__" -> mb x=bootBuiltins x
  nolimit:base.NoLimit
structure Cx where
  prog:Program
  w:World
  K:Frag
  mg:Str -> Option Value
  base:Heap
  A:Around
  N:List Str
  s₀:Shared
  H₀:Hp
  env:Env
  outer:List Env
  stack:List Env
  ex:List Addr
  fn:Str -> Bool
  calm:Bool
  pn:List (Addr × Obj)
  xe:Value -> Shared -> Prop
noncomputable def frs (l:List Env):List Addr:=l.filterMap (·.frame)
noncomputable abbrev Cx.fs (X:Cx):List Addr:=frs X.outer
noncomputable def Vis (sc:Scope) (x:Str):Prop:=sc.names.lookup x=some .local \/ sc.names.lookup x=some .cell \/ sc.names.lookup x=some .free
noncomputable def Loc (sc:Scope) (x:Str):Prop:=sc.names.lookup x=some .local \/ sc.names.lookup x=some .cell
noncomputable def Look (env:Env) (h:Heap) (m:Str -> Option Value) (x:Str) (u:Value):Prop :=
  (env.kindOf x=some .local /\ m x=some u) \/ ((env.kindOf x=some .cell \/ env.kindOf x=some .free) /\ ∃ c,env.cells.lookup x=some c /\ h.IsCell c (some u))
structure Cx.Ok (X:Cx):Prop where
  mod:Mod X.K X.mg X.base
  kind:X.env.scope.kind=.function
  glob:X.env.globals=mainGlobals
  blt:X.env.builtins=builtinsNs
  above:X.s₀.heap.objs.size <= X.env.locals
  inj:∀ x y c,X.env.cells.lookup x=some c -> X.env.cells.lookup y=some c -> x=y
  has:∀ x,(X.env.kindOf x=some .cell \/ X.env.kindOf x=some .free) -> ∃ c,X.env.cells.lookup x=some c
  cab:∀ x c,X.fn x=true -> X.env.cells.lookup x=some c -> X.s₀.heap.objs.size <= c
  hd:X.calm=true -> X.A.handled=none
  frames:X.A.frames=some X.stack
  stk:X.stack=X.outer \/ (X.stack=X.env :: X.outer /\ X.env.frame=some X.env.locals)
  exf:∀ b ∈ X.ex,b ≠ X.env.locals /\ ∀ x c,X.env.cells.lookup x=some c -> c ≠ b
  bs:∀ b o,X.base.get? b=some o -> X.s₀.heap.get? b=some o /\ X.H₀ b=none
  bsz:X.base.objs.size <= X.s₀.heap.objs.size
  noex:∀ b o,X.base.get? b=some o -> b ∉ X.ex
  exfs:∀ b ∈ X.ex,b ∉ X.fs
  funs:X.s₀.heap.FunFrames X.base X.outer
  frf:∀ b ∈ X.fs,X.H₀ b=none
structure Inv (X:Cx) (pins:List (Addr × Obj)) (σ:List (Option V)) (H:Hp) (s:Shared):Prop where
  ok:X.Ok
  os:s.os=X.s₀.os
  bare:AllBare s.gens
  base:Un X.fs X.ex X.H₀ H X.s₀.heap s.heap
  loc:∃ m,s.heap.Ns X.env.locals m /\ ∀ (i:Nat) (x:Str) (v:V),X.N[i]? = some x -> σ[i]? = some (some v) -> Vis X.env.scope x -> ∃ u,RelV v u /\ Look X.env s.heap m x u
  cell:∀ x c,X.env.cells.lookup x=some c -> ∃ v,s.heap.IsCell c v
  free:H X.env.locals=none
  freeC:∀ x c,X.env.cells.lookup x=some c -> H c=none
  pin:∀ p ∈ X.pn ++ pins,s.heap.get? p.1=some p.2 /\ H p.1=none /\ p.1 ≠ X.env.locals /\ p.1 ∉ X.fs /\ ∀ v,p.2.data ≠ .cell v
  hok:HOk X.prog X.w H s.heap
  len:σ.length=X.N.length
section
variable {X:Cx} {pins:List (Addr × Obj)} {σ:List (Option V)} {H H':Hp} {s:Shared} {h':Heap}
theorem Cx.Ok.nofr (ok:X.Ok) {b:Addr} {o:Obj} (e:X.base.get? b=some o):b ∉ X.fs:=fun hb=>by
  have:=(ok.funs.mem hb).1
  rw [e] at this; cases this
theorem Inv.bs (I:Inv X pins σ H s):∀ b o,X.base.get? b=some o -> s.heap.get? b=some o /\ H b=none:=fun b o e =>
  ⟨I.base.keep b o (I.ok.bs b o e).1 (I.ok.bs b o e).2 (I.ok.nofr e) (I.ok.noex b o e),I.base.free b o (I.ok.bs b o e).1 (I.ok.bs b o e).2 (I.ok.noex b o e)⟩
theorem Inv.bk (I:Inv X pins σ H s):∀ b o,X.base.get? b=some o -> s.heap.get? b=some o:=fun b o e=>(I.bs b o e).1
theorem Inv.mod (I:Inv X pins σ H s):Mod X.K X.mg X.base:=I.ok.mod
theorem Inv.kIn (I:Inv X pins σ H s):X.K.In s.heap:=I.ok.mod.kin.keeps I.bk
theorem Inv.nolimit (I:Inv X pins σ H s):s.heap.NoLimit:=I.ok.mod.nolimit.keeps I.bk
theorem Inv.fr (I:Inv X pins σ H s):∃ m,Fr X.base X.env.locals s.heap m :=
  let ⟨m,hn,_⟩:=I.loc
  ⟨m,hn,I.bk,Nat.le_trans I.ok.bsz I.ok.above⟩
theorem Inv.lt (I:Inv X pins σ H s):X.env.locals < s.heap.objs.size:=let ⟨_,hn,_⟩:=I.loc; hn.lt
theorem Inv.sz (I:Inv X pins σ H s):X.s₀.heap.objs.size <= s.heap.objs.size:=Nat.le_trans I.ok.above (Nat.le_of_lt I.lt)
theorem Inv.nofs (I:Inv X pins σ H s) {a:Addr} (h:s.heap.objs.size <= a):a ∉ X.fs:=fun hb=>by
  obtain ⟨_,o,ho,_⟩:=I.ok.funs.mem hb
  exact absurd (Nat.lt_of_lt_of_le (Heap.lt_size ho) (Nat.le_trans I.sz h)) (Nat.lt_irrefl _)
theorem Inv.cne (I:Inv X pins σ H s):∀ x c,X.env.cells.lookup x=some c -> c ≠ X.env.locals:=fun x c e z=>by
  obtain ⟨v,o,ho,hd⟩:=I.cell x c e
  obtain ⟨m,⟨o',es,ep,ho',hd',_⟩,_⟩:=I.loc
  rw [z,ho'] at ho; cases ho; rw [hd'] at hd; cases hd
theorem Inv.funs (I:Inv X pins σ H s):s.heap.FunFrames X.base X.outer:=by
  have all:∀ (l:List Env),(∀ b ∈ frs l,b ∈ X.fs) -> X.s₀.heap.FunFrames X.base l -> s.heap.FunFrames X.base l:=by
    intro l
    induction l with
    | nil=>intro _ _; trivial
    | cons env r ih =>
      intro hs hl
      obtain ⟨hk,⟨L,o,hf,hn,ho,hd⟩,hr⟩:=hl
      have hL:L ∈ X.fs:=hs L (by unfold frs; rw [List.filterMap_cons,hf]; exact List.mem_cons_self)
      obtain ⟨sl,e⟩:=I.base.slot L o ho (I.ok.frf L hL) hL fun z=>I.ok.exfs L z hL
      exact ⟨hk,⟨L,_,hf,hn,e,hd⟩,ih (fun b hb=>hs b (by unfold frs; rw [List.filterMap_cons,hf]; exact List.mem_cons_of_mem _ hb)) hr⟩
  exact all X.outer (fun _ hb=>hb) I.ok.funs
theorem Inv.stack (I:Inv X pins σ H s):s.heap.FunFrames X.base X.stack:=by
  rcases I.ok.stk with e | ⟨e,hf⟩
  . rw [e]; exact I.funs
  . rw [e]
    obtain ⟨m,hn,_⟩:=I.loc
    refine .cons (by rw [I.ok.kind]; decide) hf hn ?_ I.funs
    exact Heap.get?_none_of_le (Nat.le_trans I.ok.bsz I.ok.above)
theorem Inv.stkSub (I:Inv X pins σ H s):∀ b ∈ frs X.stack,b ∈ X.env.locals :: X.fs:=fun b hb=>by
  rcases I.ok.stk with e | ⟨e,hf⟩
  . rw [e] at hb; exact List.mem_cons_of_mem _ hb
  . rw [e] at hb
    unfold frs at hb
    rw [List.filterMap_cons,hf] at hb
    exact hb
theorem Inv.stkFree (I:Inv X pins σ H s):∀ b ∈ frs X.stack,H b=none:=fun b hb=>by
  rcases List.mem_cons.mp (I.stkSub b hb) with e | hb
  . rw [e]; exact I.free
  . obtain ⟨_,o,ho,_⟩:=I.ok.funs.mem hb
    exact I.base.free b o ho (I.ok.frf b hb) fun z=>I.ok.exfs b z hb
theorem Inv.step {g':Array GenState} {t':Nat} {d':Drawn} {ch:List Addr} (I:Inv X pins σ H s)
    (hch:∀ b ∈ ch,(b ∈ X.ex \/ X.s₀.heap.objs.size <= b) /\ b ≠ X.env.locals /\ (∀ x c,X.env.cells.lookup x=some c -> c ≠ b) /\ ∀ p ∈ X.pn ++ pins,p.1 ≠ b)
    (keep:∀ b o,b ≠ X.env.locals -> b ∉ X.fs -> b ∉ ch -> s.heap.get? b=some o -> H b=none -> h'.get? b=some o)
    (slot:∀ b o,b ≠ X.env.locals -> b ∈ X.fs -> b ∉ ch -> s.heap.get? b=some o -> H b=none -> ∃ sl,h'.get? b=some { o with slots:=sl }) (free:∀ b o,b ∉ ch -> s.heap.get? b=some o -> H b=none -> H' b=none)
    (there:∀ b o,b ∉ ch -> s.heap.get? b=some o -> ∃ o',h'.get? b=some o')
    (tups:∀ b xs,H b=some (.tup xs) -> H' b=some (.tup xs)) (frzs:∀ b o u,H b=some (.frz o u) -> H' b=some (.frz o u)) (tbls:∀ b ps,H b=some (.tbl ps) -> ∃ more,H' b=some (.tbl (ps ++ more)))
    (ns:∀ m,s.heap.Ns X.env.locals m -> h'.Ns X.env.locals m) (hok:HOk X.prog X.w H' h') (hg:AllBare g') :
    Inv X pins σ H' { s with heap:=h',gens:=g',drawn:=d',toks:=t' }:=by
  have neL:∀ b o,X.s₀.heap.get? b=some o -> b ≠ X.env.locals:=fun b o e=>Nat.ne_of_lt (Nat.lt_of_lt_of_le (Heap.lt_size e) I.ok.above)
  have neC:∀ b o,X.s₀.heap.get? b=some o -> b ∉ X.ex -> b ∉ ch:=fun b o e hx hb=>by
    rcases (hch b hb).1 with z | z
    . exact hx z
    . exact absurd (Nat.lt_of_lt_of_le (Heap.lt_size e) z) (Nat.lt_irrefl _)
  have cellK:∀ x c,X.env.cells.lookup x=some c -> ∀ v,s.heap.IsCell c v -> h'.IsCell c v:=fun x c e v ⟨o,ho,hd⟩=>by
    have nch:c ∉ ch:=fun z=>(hch c z).2.2.1 x c e rfl
    by_cases hc:c ∈ X.fs
    . obtain ⟨sl,q⟩:=slot c o (I.cne x c e) hc nch ho (I.freeC x c e)
      exact ⟨_,q,hd⟩
    . exact ⟨o,keep c o (I.cne x c e) hc nch ho (I.freeC x c e),hd⟩
  refine ⟨I.ok,I.os,hg,⟨fun b o e n hb hx=>?_,fun b o e n hb hx=>?_,fun b o e n hx=>?_,fun b o e hx=>?_,fun b xs e=>tups b xs (I.base.tups b xs e),fun b o xs e=>frzs b o xs (I.base.frzs b o xs e),fun b ps e=>?_⟩,?_,fun x c e=>?_,?_,fun x c e=>?_,fun p hp=>?_,hok,I.len⟩
  . exact keep b o (neL b o e) hb (neC b o e hx) (I.base.keep b o e n hb hx) (I.base.free b o e n hx)
  . obtain ⟨sl,e1⟩:=I.base.slot b o e n hb hx
    obtain ⟨sl',e2⟩:=slot b _ (neL b o e) hb (neC b o e hx) e1 (I.base.free b o e n hx)
    exact ⟨sl',e2⟩
  . obtain ⟨o',e1⟩:=I.base.there b o e hx
    exact free b o' (neC b o e hx) e1 (I.base.free b o e n hx)
  . obtain ⟨o',e1⟩:=I.base.there b o e hx
    exact there b o' (neC b o e hx) e1
  . obtain ⟨m1,e1⟩:=I.base.tbls b ps e
    obtain ⟨m2,e2⟩:=tbls b _ e1
    exact ⟨m1 ++ m2,by rw [e2,Array.append_assoc]⟩
  . obtain ⟨m,hn,hl⟩:=I.loc
    refine ⟨m,ns m hn,fun i x v e1 e2 e3=>?_⟩
    obtain ⟨u,r,l⟩:=hl i x v e1 e2 e3
    refine ⟨u,r,?_⟩
    rcases l with l | ⟨k,c,e,z⟩
    . exact .inl l
    . exact .inr ⟨k,c,e,cellK x c e _ z⟩
  . obtain ⟨v,z⟩:=I.cell x c e
    exact ⟨v,cellK x c e v z⟩
  . obtain ⟨m,⟨o,_,_,ho,_⟩,_⟩:=I.loc
    exact free _ o (fun z=>(hch _ z).2.1 rfl) ho I.free
  . obtain ⟨v,o,ho,hd⟩:=I.cell x c e
    exact free c o (fun z=>(hch c z).2.2.1 x c e rfl) ho (I.freeC x c e)
  . obtain ⟨e,n,ne,nf,d⟩:=I.pin p hp
    have nch:p.1 ∉ ch:=fun z=>(hch p.1 z).2.2.2 p hp rfl
    exact ⟨keep p.1 p.2 ne nf nch e n,free p.1 p.2 nch e n,ne,nf,d⟩
theorem Inv.un {t':Nat} (I:Inv X pins σ H s) (u:Un X.fs [] H H' s.heap h') (hok:HOk X.prog X.w H' h'):Inv X pins σ H' { s with heap:=h',toks:=t' }:=by
  obtain ⟨m,⟨o,es,ep,ho,r⟩,_⟩:=id I.loc
  obtain ⟨sl,hL⟩:=u.any ho I.free (by simp)
  exact I.step (g':=s.gens) (d':=s.drawn) (ch:=[]) (fun _ z=>nomatch z) (fun b o _ hb _ e n=>u.keep b o e n hb (by simp)) (fun b o _ hb _ e n=>u.slot b o e n hb (by simp)) (fun b o _ e n=>u.free b o e n (by simp)) (fun b o _ e=>u.there b o e (by simp)) u.tups u.frzs u.tbls (fun m' hm=>by
    obtain ⟨o',es',ep',ho',r'⟩:=hm
    rw [ho] at ho'; cases ho'
    exact ⟨_,es',ep',hL,r'⟩) hok I.bare
theorem Inv.call {g':Array GenState} {t':Nat} {d':Drawn} {ch:List Addr} (I:Inv X pins σ H s) (u:Un (frs X.stack) ch H H' s.heap h') (hok:HOk X.prog X.w H' h') (hg:AllBare g')
    (hch:∀ b ∈ ch,(b ∈ X.ex \/ X.s₀.heap.objs.size <= b) /\ b ≠ X.env.locals /\ (∀ x c,X.env.cells.lookup x=some c -> c ≠ b) /\ ∀ p ∈ X.pn ++ pins,p.1 ≠ b) :
    Inv X pins σ H' { s with heap:=h',gens:=g',drawn:=d',toks:=t' }:=by
  obtain ⟨m,⟨o,es,ep,ho,r⟩,_⟩:=id I.loc
  obtain ⟨sl,hL⟩:=u.any ho I.free fun z=>(hch _ z).2.1 rfl
  exact I.step (ch:=ch) hch (fun b o hL hb hc e n=>u.keep b o e n (fun z=>(List.mem_cons.mp (I.stkSub b z)).elim hL hb) hc) (fun b o _ _ hc e n=>u.any e n hc) (fun b o hc e n=>u.free b o e n hc) (fun b o hc e=>u.there b o e hc) u.tups u.frzs u.tbls (fun m' hm=>by
    obtain ⟨o',es',ep',ho',r'⟩:=hm
    rw [ho] at ho'; cases ho'
    exact ⟨_,es',ep',hL,r'⟩) hok hg
theorem Inv.turned {t':Nat} {it:Addr} (I:Inv X pins σ H s) (k:∀ b o,b ≠ it -> s.heap.get? b=some o -> h'.get? b=some o) (hn:H it=none) (hL:it ≠ X.env.locals)
    (h1:it ∈ X.ex \/ X.s₀.heap.objs.size <= it) (h2:∀ x c,X.env.cells.lookup x=some c -> c ≠ it) (h3:∀ p ∈ X.pn ++ pins,p.1 ≠ it):Inv X pins σ H { s with heap:=h',toks:=t' }:=by
  have nit:∀ b u,H b=some u -> b ≠ it:=fun b u e z=>by rw [z,hn] at e; cases e
  refine I.step (g':=s.gens) (d':=s.drawn) (ch:=[it]) (fun b hb=>?_) (fun b o _ _ hc e _=>k b o (fun z=>hc (by simp [z])) e) (fun b o _ _ hc e _=>⟨o.slots,k b o (fun z=>hc (by simp [z])) e⟩) (fun _ _ _ _ n=>n)
    (fun b o hc e=>⟨o,k b o (fun z=>hc (by simp [z])) e⟩) (fun _ _ e=>e) (fun _ _ _ e=>e) (fun b ps e=>⟨#[],by rw [e]; simp⟩) (fun m hm=>?_) (fun b u e=>?_) I.bare
  . have e:b=it:=by simpa using hb
    subst e
    exact ⟨h1,hL,h2,h3⟩
  . obtain ⟨o,es,ep,ho,r⟩:=hm
    exact ⟨o,es,ep,k _ o (Ne.symm hL) ho,r⟩
  . refine (I.hok b u e).stay (fun c v hc q=>k c v ?_ q) (fun _ q=>q) fun _ _ q=>q
    rcases hc with z | z
    . rw [z]; exact nit b u e
    . exact nit c _ z
theorem Inv.tok (I:Inv X pins σ H s) (t:Nat):Inv X pins σ H { s with toks:=t }:=I.un (h':=s.heap) (t':=t) Un.refl I.hok
theorem Inv.kept {t':Nat} (I:Inv X pins σ H s) (k:∀ b u,s.heap.get? b=some u -> h'.get? b=some u):Inv X pins σ H { s with heap:=h',toks:=t' }:=I.un (Un.kept k) (I.hok.kept k)
theorem Inv.laid {a:Addr} {o:HO} {t':Nat} (I:Inv X pins σ H s) (k:∀ b u,s.heap.get? b=some u -> h'.get? b=some u) (hp:s.heap.objs.size <= a) (new:ObjOk X.prog X.w (upd H a o) h' a o) :
    Inv X pins σ (upd H a o) { s with heap:=h',toks:=t' }:=I.un (Un.laid k hp (I.hok.fresh hp)) (I.hok.laid k hp new)
theorem Inv.write {x e:Addr} {o:HO} {t':Nat} (I:Inv X pins σ H s) (mu:Mut (H x)) (he:e=x \/ H e=some (.own x)) (k:∀ b u,b ≠ e -> s.heap.get? b=some u -> h'.get? b=some u) (heo:∃ u,h'.get? e=some u)
    (new:ObjOk X.prog X.w (upd H x o) h' x o):Inv X pins σ (upd H x o) { s with heap:=h',toks:=t' }:=I.un (Un.write mu he k heo) (I.hok.write mu he k heo new)
theorem Inv.weak {σ':List (Option V)} (I:Inv X pins σ H s) (hl:σ'.length=σ.length) (w:∀ (i:Nat) v,σ'[i]? = some (some v) -> σ[i]? = some (some v)):Inv X pins σ' H s :=
  ⟨I.ok,I.os,I.bare,I.base,let ⟨m,hn,hl'⟩:=I.loc; ⟨m,hn,fun i x v e1 e2 e3=>hl' i x v e1 (w i v e2) e3⟩,I.cell,I.free,I.freeC,I.pin,I.hok,hl.trans I.len⟩
theorem Inv.pins_of {pins':List (Addr × Obj)} (I:Inv X pins σ H s) (h:∀ p ∈ pins',s.heap.get? p.1=some p.2 /\ H p.1=none /\ p.1 ≠ X.env.locals /\ p.1 ∉ X.fs /\ ∀ v,p.2.data ≠ .cell v):Inv X pins' σ H s :=
  ⟨I.ok,I.os,I.bare,I.base,I.loc,I.cell,I.free,I.freeC,fun p hp=>(List.mem_append.mp hp).elim (fun z=>I.pin p (List.mem_append_left _ z)) (h p),I.hok,I.len⟩
theorem Z8T {N:List Str} (hN:N.Nodup) {i j:Nat} {x:Str} (a:N[i]? = some x) (b:N[j]? = some x):i=j:=by
  obtain ⟨h1,e1⟩:=List.getElem?_eq_some_iff.mp a
  obtain ⟨h2,e2⟩:=List.getElem?_eq_some_iff.mp b
  exact (List.getElem_inj hN).mp (e1.trans e2.symm)
theorem Z7f {M:Model} {A:Around} {E:Value -> Shared -> Prop} {i:Nat} {x:Str} {v:V} {u:Value} {Q:Unit -> Shared -> Prop} (I:Inv X pins σ H s) (hN:X.N.Nodup) (hi:X.N[i]? = some x) (hx:Loc X.env.scope x) (r:RelV v u)
    (h:∀ s',Inv X pins (σ.set i (some v)) H s' -> (∃ a,Heap.SameBut a s.heap s'.heap /\ (a=X.env.locals \/ X.env.cells.lookup x=some a)) -> Q () s') (hf:X.fn x=true \/ X.env.scope.names.lookup x=some .local:=by first | exact .inl rfl | exact .inr rfl | assumption):wpAny M A (storeName X.env x u) Q E s:=by
  obtain ⟨m,hn,hl⟩:=id I.loc
  have hcls:(X.env.scope.kind == .class || (X.env.scope.kind == .module && X.env.locals != X.env.globals))=false:=by rw [I.ok.kind]; rfl
  have hiσ:i < σ.length:=by rw [I.len]; exact (List.getElem?_eq_some_iff.mp hi).1
  have cne:=I.cne
  have tracked:∀ {a:Addr} {h':Heap},(∃ o,s.heap.get? a=some o /\ H a=none) -> Heap.SameBut a s.heap h' -> HOk X.prog X.w H h':=fun {a h'} ha hs b ob e=>by
    obtain ⟨_,_,hfree⟩:=ha
    refine (I.hok b ob e).stay (fun c w' hc q=>(hs.2 c ?_).trans q) (fun _ q=>q) fun _ _ q=>q
    rintro rfl
    rcases hc with rfl | hc
    . rw [hfree] at e; cases e
    . rw [hfree] at hc; cases hc
  rcases hx with hk | hk
  . refine wpAny_storeName_local hk hn (fun h' hn' hs=>?_) hcls
    obtain ⟨oL,_,_,hoL,_⟩:=id hn
    refine h _ ⟨I.ok,I.os,I.bare,⟨fun b o e n hb hx=>?_,fun b o e n hb hx=>?_,I.base.free,fun b o e hx=>?_,I.base.tups,I.base.frzs,I.base.tbls⟩,⟨_,hn',fun j y v' e1 e2 e3=>?_⟩,fun y c e=>?_,I.free,I.freeC,fun p hp=>?_,tracked ⟨oL,hoL,I.free⟩ hs,by simpa using I.len⟩ ⟨_,hs,.inl rfl⟩
    . exact (hs.2 b (Nat.ne_of_lt (Nat.lt_of_lt_of_le (Heap.lt_size e) I.ok.above))).trans (I.base.keep b o e n hb hx)
    . obtain ⟨sl,e1⟩:=I.base.slot b o e n hb hx
      exact ⟨sl,(hs.2 b (Nat.ne_of_lt (Nat.lt_of_lt_of_le (Heap.lt_size e) I.ok.above))).trans e1⟩
    . obtain ⟨o',e1⟩:=I.base.there b o e hx
      exact ⟨o',(hs.2 b (Nat.ne_of_lt (Nat.lt_of_lt_of_le (Heap.lt_size e) I.ok.above))).trans e1⟩
    . by_cases hj:j=i
      . subst hj
        rw [hi] at e1; cases e1
        rw [List.getElem?_set_self hiσ] at e2
        cases e2
        exact ⟨u,r,.inl ⟨hk,by simp⟩⟩
      . rw [List.getElem?_set_ne (Ne.symm hj)] at e2
        obtain ⟨u',r',q⟩:=hl j y v' e1 e2 e3
        refine ⟨u',r',?_⟩
        rcases q with ⟨k,e⟩ | ⟨k,c,e,z⟩
        . refine .inl ⟨k,?_⟩
          have:y ≠ x:=fun e=>hj (Z8T hN e1 (e ▸ hi))
          simp [this,e]
        . exact .inr ⟨k,c,e,z.sameBut hs (cne y c e)⟩
    . obtain ⟨w',z⟩:=I.cell y c e
      exact ⟨w',z.sameBut hs (cne y c e)⟩
    . obtain ⟨e,n,ne,nf,d⟩:=I.pin p hp
      exact ⟨(hs.2 p.1 ne).trans e,n,ne,nf,d⟩
  . have hfn:X.fn x=true:=by
      rcases hf with z | z
      . exact z
      . rw [z] at hk; cases hk
    obtain ⟨c,hc⟩:=I.ok.has x (.inl hk)
    obtain ⟨w',z⟩:=I.cell x c hc
    refine wpAny_storeName_cell I.ok.kind hk hc z (fun h' hc' hs=>?_)
    obtain ⟨oc,hoc,hocd⟩:=id z
    refine h { s with heap:=h' } ⟨I.ok,I.os,I.bare,⟨fun b o e n hb hx=>?_,fun b o e n hb hx=>?_,I.base.free,fun b o e hx=>?_,I.base.tups,I.base.frzs,I.base.tbls⟩,⟨m,hn.sameBut hs (Ne.symm (cne x c hc)),fun j y v' e1 e2 e3=>?_⟩,fun y c' e=>?_,I.free,I.freeC,fun p hp=>?_,tracked ⟨oc,hoc,I.freeC x c hc⟩ hs,by simpa using I.len⟩ ⟨c,hs,.inr hc⟩
    . exact (hs.2 b (Nat.ne_of_lt (Nat.lt_of_lt_of_le (Heap.lt_size e) (I.ok.cab x c hfn hc)))).trans (I.base.keep b o e n hb hx)
    . obtain ⟨sl,e1⟩:=I.base.slot b o e n hb hx
      exact ⟨sl,(hs.2 b (Nat.ne_of_lt (Nat.lt_of_lt_of_le (Heap.lt_size e) (I.ok.cab x c hfn hc)))).trans e1⟩
    . obtain ⟨o',e1⟩:=I.base.there b o e hx
      exact ⟨o',(hs.2 b (Nat.ne_of_lt (Nat.lt_of_lt_of_le (Heap.lt_size e) (I.ok.cab x c hfn hc)))).trans e1⟩
    . by_cases hj:j=i
      . subst hj
        rw [hi] at e1; cases e1
        rw [List.getElem?_set_self hiσ] at e2
        cases e2
        exact ⟨u,r,.inr ⟨.inl hk,c,hc,hc'⟩⟩
      . rw [List.getElem?_set_ne (Ne.symm hj)] at e2
        obtain ⟨u',r',q⟩:=hl j y v' e1 e2 e3
        refine ⟨u',r',?_⟩
        rcases q with q | ⟨k,c',e,z'⟩
        . exact .inl q
        . refine .inr ⟨k,c',e,z'.sameBut hs ?_⟩
          rintro rfl
          exact hj (Z8T hN e1 (I.ok.inj _ _ _ e hc ▸ hi))
    . by_cases hcc:c'=c
      . subst hcc; exact ⟨_,hc'⟩
      . obtain ⟨w2,z2⟩:=I.cell y c' e
        exact ⟨w2,z2.sameBut hs hcc⟩
    . obtain ⟨e,n,ne,nf,d⟩:=I.pin p hp
      refine ⟨(hs.2 p.1 ?_).trans e,n,ne,nf,d⟩
      intro q
      rw [q,hoc] at e
      have q':oc=p.2:=Option.some.inj e
      exact d w' (by rw [<- q']; exact hocd)
theorem Z8H {M:Model} {A:Around} {E:Value -> Shared -> Prop} {i:Nat} {x:Str} {v:V} {u:Value} {Q:Unit -> Shared -> Prop} (I:Inv X pins σ H s) (hN:X.N.Nodup) (hi:X.N[i]? = some x) (hx:Loc X.env.scope x) (r:RelV v u)
    (h:∀ s',Inv X pins (σ.set i (some v)) H s' -> Q () s') (hf:X.fn x=true \/ X.env.scope.names.lookup x=some .local:=by first | exact .inl rfl | exact .inr rfl | assumption):wpAny M A (storeName X.env x u) Q E s :=
  Z7f I hN hi hx r (fun s' I' _=>h s' I') hf
theorem Inv.call' {s':Shared} {ch:List Addr} (I:Inv X pins σ H s) (ho:s'.os=s.os) (u:Un (frs X.stack) ch H H' s.heap s'.heap) (hok:HOk X.prog X.w H' s'.heap) (hg:AllBare s'.gens)
    (hch:∀ b ∈ ch,(b ∈ X.ex \/ X.s₀.heap.objs.size <= b) /\ b ≠ X.env.locals /\ (∀ x c,X.env.cells.lookup x=some c -> c ≠ b) /\ ∀ p ∈ X.pn ++ pins,p.1 ≠ b):Inv X pins σ H' s':=by
  obtain ⟨h',g',d',t',o'⟩:=s'
  have e:o'=s.os:=ho
  subst e
  exact I.call (g':=g') (t':=t') (d':=d') u hok hg hch
end
noncomputable abbrev XK:=Value -> Option Addr -> Hp -> Prop
noncomputable abbrev St:=List (Option V)
noncomputable abbrev VK:=V -> Hp -> Prop
noncomputable abbrev TE:=St -> Hp -> VK -> Prop
noncomputable abbrev TT:=St -> Hp -> (Bool -> Hp -> Prop) -> Prop
noncomputable abbrev TA:=St -> Hp -> (List V -> Hp -> Prop) -> Prop
structure Ends where
  nx:St -> Hp -> Prop
  rt:VK
  bk:St -> Hp -> Prop:=fun _ _=>False
  ct:St -> Hp -> Prop:=fun _ _=>False
noncomputable abbrev TS:=Ends -> St -> Hp -> Prop
noncomputable def EP (X:Cx) (pins:List (Addr × Obj)) (σ:St) (Q:VK) (u:Value) (s':Shared):Prop:=∃ v H',Inv X pins σ H' s' /\ RelV v u /\ Q v H'
noncomputable def TP (X:Cx) (pins:List (Addr × Obj)) (σ:St) (Q:Bool -> Hp -> Prop) (b:Bool) (s':Shared):Prop:=∃ H',Inv X pins σ H' s' /\ Q b H'
noncomputable def AP (X:Cx) (pins:List (Addr × Obj)) (σ:St) (Q:List V -> Hp -> Prop) (us:List Value) (s':Shared):Prop:=∃ vs H',Inv X pins σ H' s' /\ Vals vs us /\ Q vs H'
noncomputable def SP (X:Cx) (pins:List (Addr × Obj)) (D:Ends) (f:Flow) (s':Shared):Prop :=
  match f with
  | .next=>∃ σ' H',Inv X pins σ' H' s' /\ D.nx σ' H'
  | .brk=>∃ σ' H',Inv X pins σ' H' s' /\ D.bk σ' H'
  | .cont=>∃ σ' H',Inv X pins σ' H' s' /\ D.ct σ' H'
  | .ret u=>∃ v σ' H',Inv X pins σ' H' s' /\ RelV v u /\ D.rt v H'
noncomputable def PE (X:Cx) (e:Expr) (t:TE):Prop :=
  ∀ (pins:List (Addr × Obj)) (s:Shared) (σ:St) (H:Hp) (Q:VK),Inv X pins σ H s -> t σ H Q -> wpAny (model X.prog X.w) X.A (eval e X.env) (EP X pins σ Q) X.xe s
noncomputable def PT (X:Cx) (e:Expr) (t:TT):Prop :=
  ∀ (pins:List (Addr × Obj)) (s:Shared) (σ:St) (H:Hp) (Q:Bool -> Hp -> Prop),Inv X pins σ H s -> t σ H Q -> wpAny (model X.prog X.w) X.A (isTrue e X.env (eval e X.env)) (TP X pins σ Q) X.xe s
noncomputable def PW (X:Cx) (e:Expr) (t:TT):Prop :=
  ∀ (whole:Sem Value) (pins:List (Addr × Obj)) (s:Shared) (σ:St) (H:Hp) (Q:Bool -> Hp -> Prop),Inv X pins σ H s -> t σ H Q -> wpAny (model X.prog X.w) X.A (isTrue e X.env whole) (TP X pins σ Q) X.xe s
theorem PW.pt {X:Cx} {e:Expr} {t:TT} (h:PW X e t):PT X e t:=h _
noncomputable def PA (X:Cx) (es:List Expr) (t:TA):Prop :=
  ∀ (pos:Pos) (pins:List (Addr × Obj)) (s:Shared) (σ:St) (H:Hp) (Q:List V -> Hp -> Prop),Inv X pins σ H s -> t σ H Q -> wpAny (model X.prog X.w) X.A (spliced (backTo pos (starEach es X.env))) (AP X pins σ Q) X.xe s
noncomputable def PS (X:Cx) (st:Stmt) (t:TS):Prop :=
  ∀ (pins:List (Addr × Obj)) (s:Shared) (σ:St) (H:Hp) (D:Ends),Inv X pins σ H s -> t D σ H -> wpAny (model X.prog X.w) X.A (exec st X.env) (SP X pins D) X.xe s
noncomputable def PSs (X:Cx) (st:List Stmt) (t:TS):Prop :=
  ∀ (pins:List (Addr × Obj)) (s:Shared) (σ:St) (H:Hp) (D:Ends),Inv X pins σ H s -> t D σ H -> wpAny (model X.prog X.w) X.A (execs st X.env) (SP X pins D) X.xe s
theorem thn {α:Type} {t:Sem α} {Q Q':α -> Shared -> Prop} {M:Model} {A:Around} {E:Value -> Shared -> Prop} {s:Shared} (h:wpAny M A t Q E s) (hQ:∀ a s,Q a s -> Q' a s):wpAny M A t Q' E s:=wpAny_mono h hQ fun _ _ x=>x
section
variable {X:Cx}
theorem bin {a b:Expr} {ta tb:TE} (ha:PE X a ta) (hb:PE X b tb) {pins:List (Addr × Obj)} {s:Shared} {σ:St} {H:Hp} {R:V -> V -> Hp -> Prop} (I:Inv X pins σ H s) (h:ta σ H fun x H1=>tb σ H1 fun y H2=>R x y H2)
    {α:Type} {Q:α -> Shared -> Prop} {f:Value -> Value -> Sem α}
    (hf:∀ v u s2 x y H2,Inv X pins σ H2 s2 -> RelV x v -> RelV y u -> R x y H2 -> wpAny (model X.prog X.w) X.A (f v u) Q X.xe s2) :
    wpAny (model X.prog X.w) X.A (eval a X.env) (fun v s₁=>wpAny (model X.prog X.w) X.A (eval b X.env) (fun u s₂=>wpAny (model X.prog X.w) X.A (f v u) Q X.xe s₂) X.xe s₁) X.xe s:=by
  refine thn (ha pins s σ H _ I h) fun v s1 ⟨x,H1,I1,r1,q1⟩=>?_
  refine thn (hb pins s1 σ H1 _ I1 q1) fun u s2 ⟨y,H2,I2,r2,q2⟩=>?_
  exact hf v u s2 x y H2 I2 r1 r2 q2
noncomputable def tVar (i:Nat):TE:=fun σ H Q=>∃ v,σ[i]? = some (some v) /\ Q v H
noncomputable def tC (v:V):TE:=fun _ H Q=>Q v H
theorem Z4s {i:Nat} {x:Str} {pos:Pos} (hN:X.N[i]? = some x) (hv:Vis X.env.scope x) (hd:(x == ("__debug__" : Str))=false:=by decide) (hcd:(x == ("__classdict__" : Str))=false:=by decide):PE X (.Name x pos) (tVar i):=by
  intro pins s σ H Q I h
  obtain ⟨v,e,h⟩:=h
  obtain ⟨m,hn,hl⟩:=I.loc
  obtain ⟨u,r,l⟩:=hl i x v hN e hv
  have fin:EP X pins σ Q u s:=⟨v,H,I,r,h⟩
  rcases l with ⟨hk,hm⟩ | ⟨hk,c,hc,hcell⟩
  . exact wpAny_Name (wpAny_loadName_local I.ok.kind hk hn hm fin) hd
  . rcases hk with hk | hk
    . exact wpAny_Name (wpAny_loadName_cell I.ok.kind hk hc hcell fin) hd
    . exact wpAny_Name (wpAny_loadName_free I.ok.kind hk hc hcell fin hcd) hd
theorem pe_int {i j pos}:PE X (.Constant (.int i) j pos) (tC (.int i)):=fun _ _ _ H _ I h=>wpAny_Constant_int ⟨.int i,H,I.tok _,⟨_,rfl⟩,h⟩
theorem ZfU {b j pos}:PE X (.Constant (.bool b) j pos) (tC (.bl b)):=fun _ _ _ H _ I h=>Constant_bool ⟨.bl b,H,I,rfl,h⟩
theorem Zf1 {j pos}:PE X (.Constant .none j pos) (tC .non):=fun _ _ _ H _ I h=>Constant_none ⟨.non,H,I,rfl,h⟩
theorem ZeZ {x j pos}:PE X (.Constant (.str x) j pos) (tC (.str x)):=fun _ _ _ H _ I h=>Calls.Constant_str ⟨.str x,H,I.tok _,⟨_,rfl⟩,h⟩
noncomputable def Gl (X:Cx) (x:Str):Prop:=X.env.kindOf x=some .globalImplicit
theorem Z8k {E:Value -> Shared -> Prop} {pins:List (Addr × Obj)} {s:Shared} {σ:St} {H:Hp} {x:Str} {u:Value} {pos:Pos} {Q:Value -> Shared -> Prop} (I:Inv X pins σ H s) (hg:Gl X x) (hm:X.mg x=some u) (h:Q u s)
    (hd:(x == ("__debug__" : Str))=false:=by decide):wpAny (model X.prog X.w) X.A (eval (.Name x pos) X.env) Q E s :=
  Calls.Name_function_global I.ok.kind hg (Calls.loadGlobal_global (by rw [I.ok.glob]; exact I.mod.glob.keeps I.bk) hm h) hd
theorem Z6k {E:Value -> Shared -> Prop} {pins:List (Addr × Obj)} {s:Shared} {σ:St} {H:Hp} {x:Str} {u:Value} {pos:Pos} {Q:Value -> Shared -> Prop} (I:Inv X pins σ H s) (hg:Gl X x) (hm:X.mg x=none) (hv:bootBuiltins x=some u) (h:Q u s)
    (hn:x ≠ "__name__":=by decide) (hd:(x == ("__debug__" : Str))=false:=by decide):wpAny (model X.prog X.w) X.A (eval (.Name x pos) X.env) Q E s:=by
  obtain ⟨mb,h1,h2⟩:=I.mod.blt
  exact Calls.Name_function_global I.ok.kind hg (Calls.loadGlobal_builtin (by rw [I.ok.glob]; exact I.mod.glob.keeps I.bk) hm (by rw [I.ok.blt]; exact h1.keeps I.bk) ((h2 x hn).trans hv) h) hd
theorem ZdR {x:Str} {v:V} {u:Value} {pos:Pos} (hg:Gl X x) (hm:X.mg x=some u) (r:RelV v u) (hd:(x == ("__debug__" : Str))=false:=by decide):PE X (.Name x pos) (tC v) :=
  fun _ _ _ H _ I h=>Z8k I hg hm ⟨v,H,I,r,h⟩ hd
variable {a b:Expr} {ta tb:TE} {pos:Pos}
noncomputable def PC (X:Cx) (op:CmpOp) (a b:Expr) (t:TE):Prop :=
  ∀ (pins:List (Addr × Obj)) (s:Shared) (σ:St) (H:Hp) (Q:VK),Inv X pins σ H s -> t σ H Q ->
    wpAny (model X.prog X.w) X.A (eval a X.env) (fun v s₁=>wpAny (model X.prog X.w) X.A (eval b X.env) (fun u s₂=>wpAny (model X.prog X.w) X.A (compareOp op v u) (EP X pins σ Q) X.xe s₂) X.xe s₁) X.xe s
theorem Zcg (b:Expr) {op:CmpOp} (h:op ≠ .In) (h2:op ≠ .NotIn):behindInMarks op b=false:=by
  have e1:(op == CmpOp.In)=false:=by cases op <;> first | rfl | exact absurd rfl h
  have e2:(op == CmpOp.NotIn)=false:=by cases op <;> first | rfl | exact absurd rfl h2
  cases b <;> simp [behindInMarks,e1,e2]
noncomputable def tB (t:TE):TT:=fun σ H Q=>t σ H fun x H1=>∃ c,x=.bl c /\ Q c H1
theorem pt_cmp {op:CmpOp} {t:TE} (h:PC X op a b t) (h1:behindInMarks op b=false:=by first | exact Zcg _ (by decide) (by decide) | rfl):PT X (.Compare a [op] [b] pos) (tB t):=by
  intro pins s σ H Q I hw
  refine wpAny_isTrue_Compare1 (thn (h pins s σ H _ I hw) fun v s1 h1=>thn h1 fun u s2 h2=>thn h2 fun c s3 ⟨x,H1,I1,r1,q1⟩=>?_) h1
  obtain ⟨d,rfl,q⟩:=q1
  cases r1
  exact wpAny_truthy_bool ⟨H1,I1,q⟩
theorem ZeT {e:Expr} {t:TE} (h:PE X e t) (he:∀ whole,isTrue e X.env whole=(do let v <- whole; standAt e.pos; holding [v] (truthy v)):=by intro _; rfl):PT X e (tB t):=by
  intro pins s σ H Q I hw
  refine isTrue_plain (thn (h pins s σ H _ I hw) fun v s1 ⟨x,H1,I1,r1,q1⟩=>?_) (he _)
  obtain ⟨d,rfl,q⟩:=q1
  cases r1
  exact wpAny_truthy_bool ⟨H1,I1,q⟩
variable {tA tB':TT} {rest:List Expr}
noncomputable def tAnd (t u:TT):TT:=fun σ H Q=>t σ H fun c H1=>if c=true then u σ H1 Q else Q false H1
noncomputable def tOr (t u:TT):TT:=fun σ H Q=>t σ H fun c H1=>if c=true then Q true H1 else u σ H1 Q
noncomputable def tNot (t:TT):TT:=fun σ H Q=>t σ H fun c H1=>Q (!c) H1
theorem ZdD (ha:PT X a tA):PW X (.BoolOp .And [a] pos) tA:=by
  intro wh pins s σ H Q I h
  refine isTrue_and (thn (ha pins s σ H Q I h) fun c s1 e=>?_)
  cases c with
  | true=>exact isTrue_and_nil e
  | false=>exact e
theorem ZeR (ha:PT X a tA):PW X (.BoolOp .Or [a] pos) tA:=by
  intro wh pins s σ H Q I h
  refine isTrue_or (thn (ha pins s σ H Q I h) fun c s1 e=>?_)
  cases c with
  | false=>exact isTrue_or_nil e
  | true=>exact e
theorem ZeS (ha:PT X a tA) (hb:PW X (.BoolOp .And (b :: rest) pos) tB'):PW X (.BoolOp .And (a :: b :: rest) pos) (tAnd tA tB'):=by
  intro wh pins s σ H Q I h
  refine isTrue_and (thn (ha pins s σ H _ I h) fun c s1 ⟨H1,I1,q1⟩=>?_)
  cases c with
  | true=>exact hb wh pins s1 σ H1 Q I1 q1
  | false=>exact ⟨H1,I1,q1⟩
theorem ZfM (ha:PT X a tA) (hb:PW X (.BoolOp .Or (b :: rest) pos) tB'):PW X (.BoolOp .Or (a :: b :: rest) pos) (tOr tA tB'):=by
  intro wh pins s σ H Q I h
  refine isTrue_or (thn (ha pins s σ H _ I h) fun c s1 ⟨H1,I1,q1⟩=>?_)
  cases c with
  | true=>exact ⟨H1,I1,q1⟩
  | false=>exact hb wh pins s1 σ H1 Q I1 q1
theorem pt_not (ha:PT X a tA):PT X (.UnaryOp .Not a pos) (tNot tA):=by
  intro pins s σ H Q I h
  exact isTrue_not (ha pins s σ H (fun c H1=>Q (!c) H1) I h)
noncomputable def tOrV (ta tb:TE):TE:=fun σ H Q=>ta σ H fun x H1=>∃ c,x=.bl c /\ if c=true then Q (.bl true) H1 else tb σ H1 Q
theorem Zf0 {op} {t:TE} (h:PE X a t):PE X (.BoolOp op [a] pos) t:=fun pins s σ H Q I hw=>BoolOp_one (h pins s σ H Q I hw)
theorem pe_or (ha:PE X a ta) (hb:PE X (.BoolOp .Or (b :: rest) pos) tb):PE X (.BoolOp .Or (a :: b :: rest) pos) (tOrV ta tb):=by
  intro pins s σ H Q I h
  refine BoolOp_or (thn (ha pins s σ H _ I h) fun v s1 ⟨x,H1,I1,r1,q1⟩=>?_)
  obtain ⟨c,rfl,q1⟩:=q1
  cases r1
  refine wpAny_truthy_bool ?_
  cases c with
  | false=>exact hb pins s1 σ H1 Q I1 q1
  | true=>exact ⟨.bl true,H1,I1,rfl,q1⟩
end
noncomputable def SqL (K:Frag) (H:Hp) (a:Addr) (xs:List V):Prop :=
  Rd H a (.lst xs) \/
    ∃ (o:Obj) (its:Array Value) (n:Nat),K.lookup a=some o /\ o.cls=.type "list" /\ o.dict=none /\ o.data=.seq its n /\ its.size <= sizeLine /\ Vals xs its.toList
noncomputable def SqT (K:Frag) (H:Hp) (a:Addr) (xs:List V):Prop :=
  Rd H a (.tup xs) \/
    ∃ (o:Obj) (its:Array Value) (n:Nat),K.lookup a=some o /\ o.cls=.type "tuple" /\ o.data=.seq its n /\ its.size <= sizeLine /\ Vals xs its.toList
noncomputable def absV:Value -> Option V
  | .none=>some .non
  | .bool b=>some (.bl b)
  | .int i _=>some (.int i)
  | .str x _=>some (.str x)
  | .bytes b _=>some (.byt b)
  | .float b _=>some (.flt b)
  | .ref a=>some (.ref a)
  | .type n=>some (.ty n)
  | _=>none
theorem RelV.abs {x:V} {u:Value} (r:RelV x u):absV u=some x:=by
  cases x with
  | non=>cases r; rfl
  | bl _=>cases r; rfl
  | int _=>obtain ⟨t,rfl⟩:=r; rfl
  | str _=>obtain ⟨t,rfl⟩:=r; rfl
  | byt _=>obtain ⟨t,rfl⟩:=r; rfl
  | flt _=>obtain ⟨t,rfl⟩:=r; rfl
  | ref _=>cases r; rfl
  | ty _=>cases r; rfl
theorem RelV.inj {x y:V} {u:Value} (r:RelV x u) (q:RelV y u):x=y:=Option.some.inj (r.abs.symm.trans q.abs)
theorem Vals.inj:∀ {xs ys:List V} {us:List Value},Vals xs us -> Vals ys us -> xs=ys
  | _,_,_,.nil,.nil=>rfl
  | _,_,_,.cons r t,.cons r' t'=>by rw [r.inj r',Vals.inj t t']
section
variable {X:Cx} {pins:List (Addr × Obj)} {σ:St} {H:Hp} {s:Shared} {a:Addr} {xs ys:List V}
theorem SqL.of {K:Frag} (h:H a=some (.lst xs)):SqL K H a xs:=.inl (.inl h)
theorem SqT.of {K:Frag} (h:H a=some (.tup xs)):SqT K H a xs:=.inl (.inl h)
theorem Inv.list (I:Inv X pins σ H s) (h:SqL X.K H a xs):∃ its:List Value,Vals xs its /\ PlainL s.heap a its.toArray /\ xs.length <= sizeLine:=by
  rcases h with h | ⟨o,its,n,hk,hc,hd,hs,hz,r⟩
  . obtain ⟨z,its,n,r,e⟩:=h.ok I.hok
    exact ⟨its,r,⟨_,n,e,rfl,rfl,rfl⟩,z⟩
  . refine ⟨its.toList,r,⟨o,n,I.kIn a o hk,hc,hd,by simpa using hs⟩,?_⟩
    have e:=r.length
    simp only [Array.length_toList] at e
    omega
theorem Inv.tuple (I:Inv X pins σ H s) (h:SqT X.K H a xs):∃ its:List Value,Vals xs its /\ IsTup s.heap a its.toArray /\ xs.length <= sizeLine:=by
  rcases h with h | ⟨o,its,n,hk,hc,hs,hz,r⟩
  . obtain ⟨z,its,r,p⟩:=h.ok I.hok
    exact ⟨its,r,p,z⟩
  . refine ⟨its.toList,r,⟨o,I.kIn a o hk,hc,n,by simpa using hs⟩,?_⟩
    have e:=r.length
    simp only [Array.length_toList] at e
    omega
theorem Inv.list_inj (I:Inv X pins σ H s) (h:SqL X.K H a xs) (h':SqL X.K H a ys):xs=ys:=by
  obtain ⟨its,r,⟨o,n,e,_,_,d⟩,_⟩:=I.list h
  obtain ⟨its',r',⟨o',n',e',_,_,d'⟩,_⟩:=I.list h'
  rw [e] at e'; cases e'
  rw [d] at d'
  injection d' with d1 _
  have:its=its':=by simpa using congrArg Array.toList d1
  subst this
  exact r.inj r'
theorem Inv.tuple_inj (I:Inv X pins σ H s) (h:SqT X.K H a xs) (h':SqT X.K H a ys):xs=ys:=by
  obtain ⟨its,r,⟨o,e,_,n,d⟩,_⟩:=I.tuple h
  obtain ⟨its',r',⟨o',e',_,n',d'⟩,_⟩:=I.tuple h'
  rw [e] at e'; cases e'
  rw [d] at d'
  injection d' with d1 _
  have:its=its':=by simpa using congrArg Array.toList d1
  subst this
  exact r.inj r'
end
noncomputable abbrev Cx.wish (X:Cx) (E:Value -> Shared -> Prop):Cx:={ X with xe:=E }
noncomputable abbrev Cx.nox (X:Cx):Cx:=X.wish fun _ _=>False
theorem Cx.Ok.wish {X:Cx} (ok:X.Ok) (E:Value -> Shared -> Prop):(X.wish E).Ok :=
  ⟨ok.mod,ok.kind,ok.glob,ok.blt,ok.above,ok.inj,ok.has,ok.cab,ok.hd,ok.frames,ok.stk,ok.exf,ok.bs,ok.bsz,ok.noex,ok.exfs,ok.funs,ok.frf⟩
theorem Cx.Ok.unwish {X:Cx} {E:Value -> Shared -> Prop} (ok:(X.wish E).Ok):X.Ok :=
  ⟨ok.mod,ok.kind,ok.glob,ok.blt,ok.above,ok.inj,ok.has,ok.cab,ok.hd,ok.frames,ok.stk,ok.exf,ok.bs,ok.bsz,ok.noex,ok.exfs,ok.funs,ok.frf⟩
section
variable {X:Cx} {pins:List (Addr × Obj)} {σ:St} {H:Hp} {s:Shared} {E:Value -> Shared -> Prop}
theorem Inv.wish (I:Inv X pins σ H s) (E:Value -> Shared -> Prop):Inv (X.wish E) pins σ H s:=⟨I.ok.wish E,I.os,I.bare,I.base,I.loc,I.cell,I.free,I.freeC,I.pin,I.hok,I.len⟩
theorem Inv.unwish (I:Inv (X.wish E) pins σ H s):Inv X pins σ H s:=⟨I.ok.unwish,I.os,I.bare,I.base,I.loc,I.cell,I.free,I.freeC,I.pin,I.hok,I.len⟩
theorem SP.unwish {D:Ends} {f:Flow} {s':Shared} (h:SP (X.wish E) pins D f s'):SP X pins D f s':=by
  cases f with
  | next=>obtain ⟨σ',H',I,q⟩:=h; exact ⟨σ',H',I.unwish,q⟩
  | brk=>obtain ⟨σ',H',I,q⟩:=h; exact ⟨σ',H',I.unwish,q⟩
  | cont=>obtain ⟨σ',H',I,q⟩:=h; exact ⟨σ',H',I.unwish,q⟩
  | ret u=>obtain ⟨v,σ',H',I,r,q⟩:=h; exact ⟨v,σ',H',I.unwish,r,q⟩
theorem PE.nox {e:Expr} {t:TE} (h:PE X.nox e t):PE X e t:=fun pins s σ H Q I hw =>
  wpAny_mono (h pins s σ H Q (I.wish _) hw) (fun _ _ ⟨v,H',I',r,q⟩=>⟨v,H',I'.unwish,r,q⟩) fun _ _ z=>False.elim z
theorem PT.nox {e:Expr} {t:TT} (h:PT X.nox e t):PT X e t:=fun pins s σ H Q I hw =>
  wpAny_mono (h pins s σ H Q (I.wish _) hw) (fun _ _ ⟨H',I',q⟩=>⟨H',I'.unwish,q⟩) fun _ _ z=>False.elim z
theorem PSs.nox {st:List Stmt} {t:TS} (h:PSs X.nox st t):PSs X st t:=fun pins s σ H D I hw =>
  wpAny_mono (h pins s σ H D (I.wish _) hw) (fun _ _ q=>q.unwish) fun _ _ z=>False.elim z
end
section
variable {X:Cx} {st:Stmt} {rest:List Stmt} {t u:TS} {e:Expr} {te:TE} {pos:Pos}
noncomputable def ZfB:TS:=fun D σ H=>D.nx σ H
noncomputable def tSeq (t u:TS):TS:=fun D σ H=>t { D with nx:=u D } σ H
theorem ZdH:PSs X [] ZfB:=fun _ _ σ H _ I h=>wpAny_execs_nil ⟨σ,H,I,h⟩
theorem Z6F (h1:PS X st t) (h2:PSs X rest u):PSs X (st :: rest) (tSeq t u):=by
  intro pins s σ H D I h
  refine wpAny_execs_cons (thn (h1 pins s σ H { D with nx:=u D } I h) fun f s1 q=>?_)
  cases f with
  | next =>
    obtain ⟨σ',H',I',q⟩:=q
    exact h2 pins s1 σ' H' D I' q
  | ret v=>exact q
  | brk=>exact q
  | cont=>exact q
theorem Zay (h1:PS X st t):PSs X [st] t:=by
  intro pins s σ H D I h
  refine wpAny_execs_cons (thn (h1 pins s σ H D I h) fun f s1 q=>?_)
  cases f with
  | next=>exact wpAny_execs_nil q
  | ret v=>exact q
  | brk=>exact q
  | cont=>exact q
theorem Inv.quiet {pins:List (Addr × Obj)} {σ:St} {H:Hp} {s:Shared} (I:Inv X pins σ H s):interactive X.env=false:=by simp [interactive,I.ok.kind]
noncomputable def ZfD (te:TE):TS:=fun D σ H=>te σ H fun _ H1=>D.nx σ H1
theorem ZdI (he:PE X e te) (hs:swapsWith e none pos.line X.env=pure false:=by rfl):PS X (.Expr e pos) (ZfD te):=by
  intro pins s σ H D I h
  exact wpAny_Expr_any (thn (he pins s σ H _ I h) fun v s1 ⟨x,H1,I1,r1,q1⟩=>⟨σ,H1,I1,q1⟩) I.quiet hs
noncomputable def tRet (te:TE):TS:=fun D σ H=>te σ H D.rt
theorem Zaz (he:PE X e te):PS X (.Return (some e) pos) (tRet te):=by
  intro pins s σ H D I h
  exact wpAny_Return_some (thn (he pins s σ H _ I h) fun v s1 ⟨x,H1,I1,r1,q1⟩=>⟨x,σ,H1,I1,r1,q1⟩)
noncomputable def tIfS (c:TT) (t u:TS):TS:=fun D σ H=>c σ H fun b H1=>if b=true then t D σ H1 else u D σ H1
theorem ZfO {c:Expr} {a b:List Stmt} {tc:TT} (hc:PT X c tc) (ha:PSs X a t) (hb:PSs X b u):PS X (.If c a b pos) (tIfS tc t u):=by
  intro pins s σ H D I h
  refine wpAny_If (thn (hc pins s σ H _ I h) fun d s1 ⟨H1,I1,q1⟩=>?_)
  cases d with
  | true=>exact ha pins s1 σ H1 D I1 q1
  | false=>exact hb pins s1 σ H1 D I1 q1
end
noncomputable abbrev TG:=V -> St -> Hp -> (St -> Hp -> Prop) -> Prop
noncomputable abbrev TGs:=List V -> St -> Hp -> (St -> Hp -> Prop) -> Prop
noncomputable def PG (X:Cx) (target:Expr) (t:TG):Prop :=
  ∀ (pins:List (Addr × Obj)) (s:Shared) (σ:St) (H:Hp) (v:V) (u:Value) (Q:St -> Hp -> Prop),Inv X pins σ H s -> RelV v u -> t v σ H Q ->
    wpAny (model X.prog X.w) X.A (assign target X.env u) (fun _ s'=>∃ σ' H',Inv X pins σ' H' s' /\ Q σ' H') X.xe s
noncomputable def PGs (X:Cx) (ts:List Expr) (t:TGs):Prop :=
  ∀ (pins:List (Addr × Obj)) (s:Shared) (σ:St) (H:Hp) (vs:List V) (us:List Value) (Q:St -> Hp -> Prop),Inv X pins σ H s -> Vals vs us -> t vs σ H Q ->
    wpAny (model X.prog X.w) X.A (assignInOrder ((assignEach ts X.env).map (·.2)) us) (fun _ s'=>∃ σ' H',Inv X pins σ' H' s' /\ Q σ' H') X.xe s
noncomputable abbrev TSet:=V -> V -> V -> Hp -> (Hp -> Prop) -> Prop
noncomputable def PSet (X:Cx) (t:TSet):Prop :=
  ∀ (pins:List (Addr × Obj)) (s:Shared) (σ:St) (H:Hp) (o i v:V) (ov iv u:Value) (Q:Hp -> Prop),Inv X pins σ H s -> RelV o ov -> RelV i iv -> RelV v u -> t o i v H Q ->
    wpAny (model X.prog X.w) X.A (setItem ov iv u) (fun _ s'=>∃ H',Inv X pins σ H' s' /\ Q H') X.xe s
section
variable {X:Cx} {pos:Pos}
noncomputable def Z9O (i:Nat):TG:=fun v σ H Q=>Q (σ.set i (some v)) H
theorem Z1G {i:Nat} {x:Str} (hN:X.N.Nodup) (hi:X.N[i]? = some x) (hx:Loc X.env.scope x) (hf:X.fn x=true \/ X.env.scope.names.lookup x=some .local:=by first | exact .inl rfl | exact .inr rfl | assumption):PG X (.Name x pos) (Z9O i):=by
  intro pins s σ H v u Q I r h
  exact wpAny_assign_Name (Z8H I hN hi hx r (fun s' I'=>⟨_,H,I',h⟩) hf)
noncomputable def gNil:TGs:=fun vs σ H Q=>vs=[] /\ Q σ H
noncomputable def Zfk (t:TG) (u:TGs):TGs:=fun vs σ H Q=>∃ v r,vs=v :: r /\ t v σ H fun σ' H'=>u r σ' H' Q
theorem Z4b:PGs X [] gNil:=by
  intro pins s σ H vs us Q I r h
  obtain ⟨e,h⟩:=h
  subst e
  cases r
  exact assignInOrder_nil ⟨σ,H,I,h⟩
theorem Z1C {e:Expr} {es:List Expr} {t:TG} {u:TGs} (h1:PG X e t) (h2:PGs X es u)
    (hs:(assignEach (e :: es) X.env).map (·.2)=assign e X.env :: (assignEach es X.env).map (·.2):=by rfl):PGs X (e :: es) (Zfk t u):=by
  intro pins s σ H vs us Q I r h
  obtain ⟨v,vr,e1,h⟩:=h
  subst e1
  cases r with
  | cons r rr =>
    rw [hs]
    refine assignInOrder_cons (thn (h1 pins s σ H _ _ _ I r h) fun _ s1 ⟨σ1,H1,I1,q1⟩=>?_)
    exact h2 pins s1 σ1 H1 _ _ Q I1 rr q1
noncomputable def gTup (K:Frag) (n:Nat) (t:TGs):TG:=fun v σ H Q=>∃ a xs,v=.ref a /\ SqT K H a xs /\ xs.length=n /\ t xs σ H Q
theorem ZeX {es:List Expr} {k:Nat} {t:TGs} {n:Nat} (hc:X.calm=true) (h:PGs X es t)
    (hn:(assignEach es X.env).length=n:=by rfl) (hst:(assignEach es X.env).findIdx? (·.1)=none:=by rfl):PG X (.Tuple es k pos) (gTup X.K n t):=by
  intro pins s σ H v u Q I r hw
  obtain ⟨a,xs,e1,hq,hl,hw⟩:=hw
  subst e1
  cases r
  obtain ⟨its,rv,ht,hz⟩:=I.tuple hq
  refine assign_Tuple_tuple (I.ok.hd hc) ht (by simp [hn,<- hl,rv.length]) hst fun h' hx=>?_
  have I1:Inv X pins σ H { s with heap:=h' }:=I.kept (t':=s.toks) fun b o e=>hx b o (Nat.ne_of_lt (Heap.lt_size e)) e
  exact h pins _ σ H xs _ Q I1 (by simpa using rv) hw
noncomputable def gSub (to ti:TE) (t:TSet):TG:=fun v σ H Q=>to σ H fun o H1=>ti σ H1 fun i H2=>t o i v H2 fun H3=>Q σ H3
theorem ZeY {o i:Expr} {to ti:TE} {t:TSet} (ho:PE X o to) (hi:PE X i ti) (hs:PSet X t)
    (ha:∀ v,assign (.Subscript o i pos) X.env v=(do
      let ov <- holding [v] (eval o X.env)
      let iv <- holding [v,ov] (eval i X.env)
      standAt pos
      holding [v,ov,iv] (setItem ov iv v)
      release [v,ov,iv] []):=by intro _; rfl):PG X (.Subscript o i pos) (gSub to ti t):=by
  intro pins s σ H v u Q I r h
  rw [ha]
  refine wpAny_bind (wpAny_holding (thn (ho pins s σ H _ I h) fun ov s1 ⟨x,H1,I1,r1,q1⟩=>?_))
  refine wpAny_bind (wpAny_holding (thn (hi pins s1 σ H1 _ I1 q1) fun iv s2 ⟨y,H2,I2,r2,q2⟩=>?_))
  refine wpAny_bind (wpAny_standAt (wpAny_bind (wpAny_holding (thn (hs pins s2 σ H2 x y v ov iv u _ I2 r1 r2 r q2) fun _ s3 ⟨H3,I3,q3⟩=>?_))))
  exact wpAny_release ⟨σ,H3,I3,q3⟩
noncomputable def tAsg (te:TE) (g:TG):TS:=fun D σ H=>te σ H fun x H1=>g x σ H1 D.nx
theorem ZcV {tg e:Expr} {te:TE} {g:TG} (he:PE X e te) (hg:PG X tg g) (hs:swapsWithSole [tg] e pos.line X.env=pure false:=by rfl) (hw:swappedStores [tg] e X.env=pure none:=by rfl)
    (h1:(assignEach [tg] X.env).map (·.2)=[assign tg X.env]:=by rfl):PS X (.Assign [tg] e pos) (tAsg te g):=by
  intro pins s σ H D I h
  refine wpAny_Assign_stores (thn (he pins s σ H _ I h) fun v s1 ⟨x,H1,I1,r1,q1⟩=>?_) hs hw
  rw [h1]
  exact thn (hg pins s1 σ H1 x v _ I1 r1 q1) fun _ s2 q=>q
theorem ZcU {i:Nat} {x:Str} {e:Expr} {te:TE} {pos':Pos} (hN:X.N.Nodup) (hi:X.N[i]? = some x) (hx:Loc X.env.scope x) (he:PE X e te) (hs:swapsWith e (some (.Name x pos')) pos.line X.env=pure false:=by rfl) (hf:X.fn x=true \/ X.env.scope.names.lookup x=some .local:=by first | exact .inl rfl | exact .inr rfl | assumption) :
    PS X (.Assign [.Name x pos'] e pos) (tAsg te (Z9O i)):=by
  intro pins s σ H D I h
  refine wpAny_Assign_Name (thn (he pins s σ H _ I h) fun v s1 ⟨y,H1,I1,r1,q1⟩=>?_) hs
  exact Z8H I1 hN hi hx r1 (fun s2 I2=>⟨_,H1,I2,q1⟩) hf
end
section
variable {X:Cx} {pos:Pos}
noncomputable def Zez (c:TT) (tb:TS):TS:=fun D σ H=>∃ W:Nat -> St -> Hp -> Prop,(∃ m,W m σ H) /\ ∀ m σ H,W m σ H ->
  c σ H fun b H1=>if b=true then ∃ N:St -> Hp -> Prop,(∀ σ' H',N σ' H' -> ∃ m',m' < m /\ W m' σ' H') /\ tb { D with nx:=N,ct:=N,bk:=D.nx } σ H1 else D.nx σ H1
theorem Zc6 {c:Expr} {body:List Stmt} {tc:TT} {tb:TS} (hp:PassesOwn (model X.prog X.w) X.A X.env X.xe) (hc:PT X c tc) (hb:PSs X body tb):PS X (.While c body [] pos) (Zez tc tb):=by
  intro pins s σ H D I h
  obtain ⟨W,⟨m0,w0⟩,turn⟩:=h
  refine wpAny_While (codeAny_whileLoop (fun n s'=>∃ σ' H',Inv X pins σ' H' s' /\ W n σ' H') ?_ m0 ⟨σ,H,I,w0⟩)
  rintro n s1 ⟨σ1,H1,I1,w1⟩
  refine wpAny_passesOwn hp (thn (hc pins s1 σ1 H1 _ I1 (turn n σ1 H1 w1)) fun b s2 ⟨H2,I2,q2⟩=>?_)
  cases b with
  | true =>
    obtain ⟨N,hN,q2⟩:=q2
    rw [if_pos rfl]
    refine wpAny_passesOwn hp (thn (hb pins s2 σ1 H2 _ I2 q2) fun f s3 q3=>?_)
    cases f with
    | next =>
      obtain ⟨σ3,H3,I3,n3⟩:=q3
      obtain ⟨m',hm,w3⟩:=hN σ3 H3 n3
      exact ⟨m',hm,σ3,H3,I3,w3⟩
    | cont =>
      obtain ⟨σ3,H3,I3,n3⟩:=q3
      obtain ⟨m',hm,w3⟩:=hN σ3 H3 n3
      exact ⟨m',hm,σ3,H3,I3,w3⟩
    | brk=>exact q3
    | ret v=>exact q3
  | false =>
    rw [if_neg Bool.false_ne_true]
    exact wpAny_execs_nil ⟨σ1,H2,I2,q2⟩
end
structure It where
  go:Nat -> Hp -> Prop
  yld:Nat -> Hp -> V -> Hp -> Prop
  stop:Nat -> Hp -> Prop
noncomputable def FpOk (X:Cx) (pins:List (Addr × Obj)) (H:Hp) (b:Addr):Prop :=
  H b=none /\ b ≠ X.env.locals /\ b ∉ X.fs /\ (b ∈ X.ex \/ X.s₀.heap.objs.size <= b) /\ (∀ x c,X.env.cells.lookup x=some c -> c ≠ b) /\ ∀ p ∈ X.pn ++ pins,p.1 ≠ b
theorem Inv.fpOk {X:Cx} {pins:List (Addr × Obj)} {σ:St} {H H':Hp} {s:Shared} {b:Addr} (I:Inv X pins σ H s) (hb:s.heap.objs.size <= b) (hn:H' b=none):FpOk X pins H' b:=by
  refine ⟨hn,Nat.ne_of_gt (Nat.lt_of_lt_of_le I.lt hb),I.nofs hb,.inr (Nat.le_trans I.sz hb),fun x c e z=>?_,fun p hp z=>?_⟩
  . obtain ⟨v,q⟩:=I.cell x c e
    exact absurd (Nat.lt_of_lt_of_le q.lt (by rw [z]; exact hb)) (Nat.lt_irrefl _)
  . exact absurd (Nat.lt_of_lt_of_le (Heap.lt_size (I.pin p hp).1) (by rw [z]; exact hb)) (Nat.lt_irrefl _)
structure Turn (P:Program) (w:World) (K:Frag) (tg:Expr) (J:It) (fp:List Addr) (it:Addr) (tn:Nat -> Heap -> Prop):Prop where
  mem:it ∈ fp
  obj:∀ i h,tn i h -> ∀ b ∈ fp,∃ o,h.get? b=some o /\ ∀ v,o.data ≠ .cell v
  keep:∀ i h h',tn i h -> (∀ b ∈ fp,∀ o,h.get? b=some o -> h'.get? b=some o) -> tn i h'
  item:∀ (X:Cx),X.prog=P -> X.w=w -> X.K=K -> X.calm=true -> ∀ (i:Nat) (pins:List (Addr × Obj)) (s:Shared) (σ:St) (H:Hp) (E:Value -> Shared -> Prop),Inv X pins σ H s -> (∀ b ∈ fp,FpOk X pins H b) -> tn i s.heap -> J.go i H ->
    wpAny (model P w) X.A (pyNext (.ref it)) (fun r s1=>∃ u,r=some u /\
      wpAny (model P w) X.A (letOwnedTupleGo tg (.ref it) u) (fun _ s2=>∃ x H',Inv X pins σ H' s2 /\ RelV x u /\ J.yld i H x H' /\ tn (i + 1) s2.heap /\ ∀ b ∈ fp,H' b=none) E s1) E s
  done:∀ (X:Cx),X.prog=P -> X.w=w -> X.K=K -> X.calm=true -> ∀ (i:Nat) (pins:List (Addr × Obj)) (s:Shared) (σ:St) (H:Hp) (E:Value -> Shared -> Prop),Inv X pins σ H s -> (∀ b ∈ fp,FpOk X pins H b) -> tn i s.heap -> J.stop i H ->
    wpAny (model P w) X.A (pyNext (.ref it)) (fun r s1=>r=none /\ Inv X pins σ H s1) E s
  self:∀ (A:Around) (i:Nat) (s:Shared) (Q:Value -> Shared -> Prop) (E:Value -> Shared -> Prop),tn i s.heap -> Q (.ref it) s -> wpAny (model P w) A (pyIter (.ref it)) Q E s
noncomputable abbrev TI:=St -> Hp -> (It -> Hp -> Prop) -> Prop
noncomputable def PIE (X:Cx) (pins:List (Addr × Obj)) (σ:St) (tg:Expr) (R:It -> Hp -> Prop) (itv:Value) (s2:Shared):Prop :=
  ∃ (it:Addr) (fp:List Addr) (tn:Nat -> Heap -> Prop) (J:It) (H':Hp),itv=.ref it /\ Inv X pins σ H' s2 /\ Turn X.prog X.w X.K tg J fp it tn /\ tn 0 s2.heap /\ (∀ b ∈ fp,FpOk X pins H' b) /\ R J H'
noncomputable def PI (X:Cx) (tg iter:Expr) (wi:TI):Prop :=
  ∀ (pins:List (Addr × Obj)) (s:Shared) (σ:St) (H:Hp) (R:It -> Hp -> Prop),Inv X pins σ H s -> wi σ H R ->
    wpAny (model X.prog X.w) X.A (eval iter X.env) (fun v s1=>wpAny (model X.prog X.w) X.A (pyIter v) (PIE X pins σ tg R) X.xe s1) X.xe s
theorem Zcx {M:Model} {A:Around} {E:Value -> Shared -> Prop} {s:Shared} {tg:Expr} {it:Addr} {u:Value} {o:Obj} {n:String} {vs:Array Value} {Q:Unit -> Shared -> Prop} (ho:s.heap.get? it=some o) (hc:o.cls=.type n) (hd:o.data=.fields vs)
    (hn:["enumerate","zip","dict_itemiterator","dict_reverseitemiterator","odict_iterator","itertools.zip_longest","itertools.pairwise"].contains n=false) (hQ:Q () s):wpAny M A (letOwnedTupleGo tg (.ref it) u) Q E s:=by
  unfold letOwnedTupleGo
  cases tg <;> first
    | exact wpAny_pure hQ
    | (cases u <;> first
        | exact wpAny_pure hQ
        | (refine wpAny_bind (wpAny_load ho ?_)
           rw [hc,hd]
           show wpAny M A (if (["enumerate","zip","dict_itemiterator","dict_reverseitemiterator","odict_iterator","itertools.zip_longest","itertools.pairwise"].contains n && vs[0]? == some (rawInt _))=true then _ else _) Q E s
           rw [if_neg (by intro h; rw [hn,Bool.false_and] at h; cases h)]
           exact wpAny_pure hQ))
noncomputable def Itl (K:Frag) (a:Addr):It :=
  ⟨fun i H=>∃ xs x,SqL K H a xs /\ xs[i]? = some x,fun i H x H'=>H'=H /\ ∀ xs,SqL K H a xs -> xs[i]? = some x,fun i H=>∃ xs,SqL K H a xs /\ xs.length <= i⟩
noncomputable def Itt (K:Frag) (a:Addr):It :=
  ⟨fun i H=>∃ xs x,SqT K H a xs /\ xs[i]? = some x,fun i H x H'=>H'=H /\ ∀ xs,SqT K H a xs -> xs[i]? = some x,fun i H=>∃ xs,SqT K H a xs /\ xs.length <= i⟩
noncomputable def Itr (lo:Int) (n:Nat):It:=⟨fun i _=>i < n,fun i H x H'=>H'=H /\ x=.int (lo + i),fun i _=>n <= i⟩
theorem Za0 {P:Program} {w:World} {K:Frag} {tg:Expr} (a it:Addr):Turn P w K tg (Itl K a) [it] it (fun i h=>h.IsListIter it a i) where
  mem:=by simp
  obj:=fun i h st b hb=>by
    have e:b=it:=by simpa using hb
    subst e
    obtain ⟨o,e,c,d⟩:=st
    exact ⟨o,e,fun v z=>by rw [d] at z; cases z⟩
  keep:=fun i h h' st k=>st.at fun o e=>k it (by simp) o e
  item:=by
    intro X hP hw hK hc i pins s σ H E I hf st hg
    subst hP hw hK
    obtain ⟨xs,x,hq,hx⟩:=hg
    obtain ⟨its,rv,p,hz⟩:=I.list hq
    obtain ⟨u,hu,ru⟩:=rv.get hx
    obtain ⟨f0,f1,f2,f3,f4,f5⟩:=hf it (by simp)
    refine wpAny_pyNext_list_item st p.isList (x:=u) (by simpa using hu) fun h' st' sb=>?_
    have I1:Inv X pins σ H { s with heap:=h' }:=I.turned (t':=s.toks) (fun b o hb e=>(sb.2 b hb).trans e) f0 f1 f3 f4 f5
    obtain ⟨o,e,c,d⟩:=id st'
    exact ⟨u,rfl,Zcx (s:={ s with heap:=h' }) e c d (by decide) ⟨x,H,I1,ru,⟨rfl,fun ys hy=>by rw [I.list_inj hy hq]; exact hx⟩,st',fun b hb=>(hf b hb).1⟩⟩
  done:=by
    intro X hP hw hK hc i pins s σ H E I hf st hg
    subst hP hw hK
    obtain ⟨xs,hq,hx⟩:=hg
    obtain ⟨its,rv,p,hz⟩:=I.list hq
    obtain ⟨f0,f1,f2,f3,f4,f5⟩:=hf it (by simp)
    have hl:=rv.length
    exact wpAny_pyNext_list_end (I.ok.hd hc) st p.isList (by simp; omega) fun h' eb=>⟨rfl,I.turned (t':=s.toks) (fun b o hb e=>eb b o hb e) f0 f1 f3 f4 f5⟩
  self:=fun _ _ _ _ _ st h=>wpAny_pyIter_listiter st h
theorem Z9j {P:Program} {w:World} {K:Frag} {tg:Expr} (a it:Addr):Turn P w K tg (Itt K a) [it] it (fun i h=>h.IsTupleIter it a i) where
  mem:=by simp
  obj:=fun i h st b hb=>by
    have e:b=it:=by simpa using hb
    subst e
    obtain ⟨o,e,c,d⟩:=st
    exact ⟨o,e,fun v z=>by rw [d] at z; cases z⟩
  keep:=fun i h h' st k=>st.at fun o e=>k it (by simp) o e
  item:=by
    intro X hP hw hK hc i pins s σ H E I hf st hg
    subst hP hw hK
    obtain ⟨xs,x,hq,hx⟩:=hg
    obtain ⟨its,rv,p,hz⟩:=I.tuple hq
    obtain ⟨u,hu,ru⟩:=rv.get hx
    obtain ⟨f0,f1,f2,f3,f4,f5⟩:=hf it (by simp)
    refine wpAny_pyNext_tuple_item st (show s.heap.IsTuple a its.toArray from p) (x:=u) (by simpa using hu) fun h' st' sb=>?_
    have I1:Inv X pins σ H { s with heap:=h' }:=I.turned (t':=s.toks) (fun b o hb e=>(sb.2 b hb).trans e) f0 f1 f3 f4 f5
    obtain ⟨o,e,c,d⟩:=id st'
    exact ⟨u,rfl,Zcx (s:={ s with heap:=h' }) e c d (by decide) ⟨x,H,I1,ru,⟨rfl,fun ys hy=>by rw [I.tuple_inj hy hq]; exact hx⟩,st',fun b hb=>(hf b hb).1⟩⟩
  done:=by
    intro X hP hw hK hc i pins s σ H E I hf st hg
    subst hP hw hK
    obtain ⟨xs,hq,hx⟩:=hg
    obtain ⟨its,rv,p,hz⟩:=I.tuple hq
    obtain ⟨f0,f1,f2,f3,f4,f5⟩:=hf it (by simp)
    have hl:=rv.length
    exact wpAny_pyNext_tuple_end (I.ok.hd hc) st (show s.heap.IsTuple a its.toArray from p) (by simp; omega) fun h' eb=>⟨rfl,I.turned (t':=s.toks) (fun b o hb e=>eb b o hb e) f0 f1 f3 f4 f5⟩
  self:=fun _ _ _ _ _ st h=>wpAny_pyIter_tupleiter st h
theorem Z9k {P:Program} {w:World} {K:Frag} {tg:Expr} (it:Addr) (lo:Int) (n:Nat):Turn P w K tg (Itr lo n) [it] it (fun i h=>IsRangeIter h it (lo + (i:Nat) * 1) ((n:Int) - (i:Nat)) 1) where
  mem:=by simp
  obj:=fun i h st b hb=>by
    have e:b=it:=by simpa using hb
    subst e
    exact ⟨_,st,fun v z=>by
      have z':Data.fields _=Data.cell v:=z
      cases z'⟩
  keep:=fun i h h' st k=>k it (by simp) _ st
  item:=by
    intro X hP hw hK hc i pins s σ H E I hf st hg
    subst hP hw hK
    obtain ⟨f0,f1,f2,f3,f4,f5⟩:=hf it (by simp)
    have W:=Walks.range (prog:=X.prog) (w:=X.w) (I.ok.hd hc) it lo 1 n
    refine W.item i s _ _ hg st fun v h' tk hv st' kk=>?_
    obtain ⟨t,rfl⟩:=hv
    have I1:Inv X pins σ H { s with heap:=h',toks:=tk }:=I.turned (fun b o hb e=>kk b o (by simpa using hb) e) f0 f1 f3 f4 f5
    refine ⟨_,rfl,Zcx (s:={ s with heap:=h',toks:=tk }) (n := "range_iterator") st' rfl rfl (by decide) ⟨.int (lo + i),H,I1,⟨t,?_⟩,⟨rfl,rfl⟩,st',fun b hb=>(hf b hb).1⟩⟩
    rw [Int.mul_one]
  done:=by
    intro X hP hw hK hc i pins s σ H E I hf st hg
    subst hP hw hK
    obtain ⟨f0,f1,f2,f3,f4,f5⟩:=hf it (by simp)
    exact wpAny_pyNext_range_end (I.ok.hd hc) st (by have:n <= i:=hg; omega) fun h' eb=>⟨rfl,I.turned (t':=s.toks) (fun b o hb e=>eb b o hb e) f0 f1 f3 f4 f5⟩
  self:=fun _ _ _ _ _ st h=>wpAny_pyIter_rangeiter st h
section
variable {X:Cx} {tg:Expr}
noncomputable def Zg4 (K:Frag) (tl:TE):TI:=fun σ H R=>tl σ H fun x H1=>∃ a,x=.ref a /\ (∃ xs,SqL K H1 a xs) /\ R (Itl K a) H1
noncomputable def iTup (K:Frag) (tl:TE):TI:=fun σ H R=>tl σ H fun x H1=>∃ a,x=.ref a /\ (∃ xs,SqT K H1 a xs) /\ R (Itt K a) H1
theorem ZdP {l:Expr} {tl:TE} (hl:PE X l tl):PI X tg l (Zg4 X.K tl):=by
  intro pins s σ H R I h
  refine thn (hl pins s σ H _ I h) fun v s1 ⟨x,H1,I1,r1,q1⟩=>?_
  obtain ⟨a,e,⟨xs,hq⟩,q⟩:=q1
  subst e
  cases r1
  obtain ⟨its,rv,p,hz⟩:=I1.list hq
  refine wpAny_pyIter_list p.isList ?_
  refine ⟨s1.heap.objs.size,[s1.heap.objs.size],_,_,H1,rfl,I1.kept (t':=s1.toks) fun b o e=>Heap.get?_push_of_some _ e,Za0 a _,⟨_,Heap.get?_push_size _ rfl,rfl,rfl⟩,fun b hb=>?_,q⟩
  have e:b=s1.heap.objs.size:=by simpa using hb
  subst e
  exact I1.fpOk (Nat.le_refl _) (I1.hok.fresh (Nat.le_refl _))
theorem ZeW {l:Expr} {tl:TE} (hl:PE X l tl):PI X tg l (iTup X.K tl):=by
  intro pins s σ H R I h
  refine thn (hl pins s σ H _ I h) fun v s1 ⟨x,H1,I1,r1,q1⟩=>?_
  obtain ⟨a,e,⟨xs,hq⟩,q⟩:=q1
  subst e
  cases r1
  obtain ⟨its,rv,p,hz⟩:=I1.tuple hq
  refine wpAny_pyIter_tuple (show s1.heap.IsTuple a its.toArray from p) ?_
  refine ⟨s1.heap.objs.size,[s1.heap.objs.size],_,_,H1,rfl,I1.kept (t':=s1.toks) fun b o e=>Heap.get?_push_of_some _ e,Z9j a _,⟨_,Heap.get?_push_size _ rfl,rfl,rfl⟩,fun b hb=>?_,q⟩
  have e:b=s1.heap.objs.size:=by simpa using hb
  subst e
  exact I1.fpOk (Nat.le_refl _) (I1.hok.fresh (Nat.le_refl _))
theorem ZbV {pins:List (Addr × Obj)} {σ:St} {H:Hp} {s:Shared} {R:It -> Hp -> Prop} {E:Value -> Shared -> Prop} {lo hi:Int} {t u v:Tok} {tk:Nat} (I:Inv X pins σ H s) (h1:-(2 ^ 62) <= lo) (h2:lo < 2 ^ 62) (h3:-(2 ^ 62) <= hi) (h4:hi < 2 ^ 62)
    (q:R (Itr lo (hi - lo).toNat) H):wpAny (model X.prog X.w) X.A (pyIter (.ref s.heap.objs.size)) (PIE X pins σ tg R) E { s with heap:=s.heap.push { cls:=.type "range",data:=.fields #[.int lo t,.int hi u,.int 1 v] },toks:=tk }:=by
  refine wpAny_pyIter_range (IsRange.new ..) (small_one h1 h2 h3 h4) ?_
  have I1:Inv X pins σ H { s with heap:=s.heap.push { cls:=.type "range",data:=.fields #[.int lo t,.int hi u,.int 1 v] },toks:=tk }:=I.kept fun b o e=>Heap.get?_push_of_some _ e
  refine ⟨(s.heap.push { cls:=.type "range",data:=.fields #[.int lo t,.int hi u,.int 1 v] }).objs.size,[(s.heap.push { cls:=.type "range",data:=.fields #[.int lo t,.int hi u,.int 1 v] }).objs.size],_,_,H,rfl,
    I1.kept (t':=tk) fun b o e=>Heap.get?_push_of_some _ e,Z9k _ lo (hi - lo).toNat,?_,fun b hb=>?_,q⟩
  . have e1:lo + ((0:Nat):Int) * 1=lo:=by simp
    have e2:(((hi - lo).toNat:Nat):Int) - ((0:Nat):Int)=Builtin.Range.rangeSize lo hi 1:=by rw [rangeSize_one]; split <;> omega
    show IsRangeIter _ _ (lo + ((0:Nat):Int) * 1) ((((hi - lo).toNat:Nat):Int) - ((0:Nat):Int)) 1
    rw [e1,e2]
    exact Heap.get?_push_size _ rfl
  . have e:b=(s.heap.push { cls:=.type "range",data:=.fields #[.int lo t,.int hi u,.int 1 v] }).objs.size:=by simpa using hb
    subst e
    exact I1.fpOk (Nat.le_refl _) (I1.hok.fresh (Nat.le_refl _))
noncomputable def Zg3 (ta:TA):TI:=fun σ H R=>ta σ H fun vs H1=>∃ j:Int,vs=[.int j] /\ -(2 ^ 62) <= j /\ j < 2 ^ 62 /\ R (Itr 0 j.toNat) H1
theorem ZaD {a:Expr} {ta:TA} {p pos:Pos} (hg:Gl X "range") (hm:X.mg "range" = none) (ha:PA X [a] ta) (hs:starEach [a] X.env=[(false,eval a X.env)]:=by rfl):PI X tg (.Call (.Name "range" p) [a] [] pos) (Zg3 ta):=by
  intro pins s σ H R I h
  refine Call_ (Z6k I hg hm boot_range (PyProof.Rows.callWith_type1 (thn (ha pos pins s σ H _ I h) fun us s1 ⟨vs,H1,I1,r1,q1⟩=>?_) hs rfl))
  obtain ⟨j,e,q1,q2,q⟩:=q1
  subst e
  cases r1 with
  | cons r rr =>
    cases rr
    obtain ⟨t,rfl⟩:=r
    exact call_range_1 (ZbV I1 (by omega) (by omega) q1 q2 (by simpa using q))
noncomputable def tFor (wi:TI) (g:TG) (tb:TS):TS:=fun D σ H=>wi σ H fun J H1=>∃ W:Nat -> Nat -> St -> Hp -> Prop,(∃ m,W 0 m σ H1) /\ ∀ i m σ H,W i m σ H ->
  (J.stop i H /\ D.nx σ H) \/ (J.go i H /\ ∃ N:St -> Hp -> Prop,(∀ σ' H',N σ' H' -> ∃ m',m' < m /\ W (i + 1) m' σ' H') /\ ∀ x H',J.yld i H x H' -> g x σ H' fun σ2 H2=>tb { D with nx:=N,ct:=N,bk:=D.nx } σ2 H2)
noncomputable def Z7q (fp:List Addr) (h:Heap):List (Addr × Obj):=fp.filterMap fun b=>(h.get? b).map fun o=>(b,o)
theorem Z3V {fp:List Addr} {h:Heap} {b:Addr} {o:Obj} (hb:b ∈ fp) (e:h.get? b=some o):(b,o) ∈ Z7q fp h:=List.mem_filterMap.mpr ⟨b,hb,by rw [e]; rfl⟩
theorem ZaP {fp:List Addr} {h:Heap} {p:Addr × Obj} (hp:p ∈ Z7q fp h):p.1 ∈ fp /\ h.get? p.1=some p.2:=by
  obtain ⟨b,hb,e⟩:=List.mem_filterMap.mp hp
  cases q:h.get? b with
  | none=>rw [q] at e; cases e
  | some o =>
    rw [q] at e
    have e':(b,o)=p:=Option.some.inj e
    subst e'
    exact ⟨hb,q⟩
theorem Inv.pinned {pins:List (Addr × Obj)} {σ:St} {H:Hp} {s:Shared} {fp:List Addr} (I:Inv X pins σ H s) (hf:∀ b ∈ fp,FpOk X pins H b) (ho:∀ b ∈ fp,∃ o,s.heap.get? b=some o /\ ∀ v,o.data ≠ .cell v):Inv X (pins ++ Z7q fp s.heap) σ H s :=
  I.pins_of fun p hp=>(List.mem_append.mp hp).elim (fun z=>I.pin p (List.mem_append_right _ z)) fun z=>by
    obtain ⟨hb,e⟩:=ZaP z
    obtain ⟨f0,f1,f2,_⟩:=hf p.1 hb
    obtain ⟨o,e',d⟩:=ho p.1 hb
    rw [e] at e'; cases e'
    exact ⟨e,f0,f1,f2,d⟩
theorem Inv.unpinned {pins pl:List (Addr × Obj)} {σ:St} {H:Hp} {s:Shared} (I:Inv X (pins ++ pl) σ H s):Inv X pins σ H s:=I.pins_of fun p hp=>I.pin p (List.mem_append_right _ (List.mem_append_left _ hp))
theorem ZeU {iter:Expr} {body:List Stmt} {wi:TI} {g:TG} {tb:TS} {pos:Pos} (hp:PassesOwn (model X.prog X.w) X.A X.env X.xe) (hc:X.calm=true) (hi:PI X tg iter wi) (hg:PG X tg g) (hb:PSs X body tb)
    (hs:∀ x,foldedSetIterable iter X.env x=pure x:=by intro _; rfl):PS X (.For tg iter body [] pos) (tFor wi g tb):=by
  intro pins s σ H D I h
  refine wpAny_For (thn (hi pins s σ H _ I h) fun v s1 h1=>thn h1 fun itv s2 h2=>?_) hs
  obtain ⟨it,fp,tn,J,H2,e,I2,T,st2,f2,W,⟨m0,w0⟩,turn⟩:=h2
  subst e
  -- what stays true of the iterator's objects through the loop
  have stat:∀ {H':Hp},(∀ b ∈ fp,H' b=none) -> ∀ b ∈ fp,FpOk X pins H' b:=fun hn b hb=>⟨hn b hb,(f2 b hb).2⟩
  refine codeAny_forLoop_any (fun n s'=>∃ i σ' H',Inv X pins σ' H' s' /\ tn i s'.heap /\ (∀ b ∈ fp,H' b=none) /\ W i n σ' H') ?_ m0 ⟨0,σ,H2,I2,st2,fun b hb=>(f2 b hb).1,w0⟩
  rintro n s3 ⟨i,σ3,H3,I3,st3,fr3,w3⟩
  rcases turn i n σ3 H3 w3 with ⟨stop,qn⟩ | ⟨go,N,hN,step⟩
  . refine wpAny_passesOwn hp (thn (T.done X rfl rfl rfl hc i pins s3 σ3 H3 X.xe I3 (stat fr3) st3 stop) fun r s4 ⟨hr,I4⟩=>?_)
    subst hr
    exact wpAny_execs_nil ⟨σ3,H3,I4,qn⟩
  . refine wpAny_passesOwn hp (thn (T.item X rfl rfl rfl hc i pins s3 σ3 H3 X.xe I3 (stat fr3) st3 go) fun r s4 ⟨u,hr,h4⟩=>?_)
    subst hr
    refine wpAny_passesOwn hp (thn h4 fun _ s5 ⟨x,H5,I5,r5,y5,st5,fr5⟩=>?_)
    have I5':=I5.pinned (stat fr5) (T.obj _ _ st5)
    refine wpAny_passesOwn hp (thn (hg _ s5 σ3 H5 x u _ I5' r5 (step x H5 y5)) fun _ s6 ⟨σ6,H6,I6,q6⟩=>?_)
    refine wpAny_passesOwn hp (thn (hb _ s6 σ6 H6 _ I6 q6) fun f s7 q7=>?_)
    have again:∀ {σ7:St} {H7:Hp},Inv X (pins ++ Z7q fp s5.heap) σ7 H7 s7 -> N σ7 H7 -> ∃ m,m < n /\ ∃ i σ' H',Inv X pins σ' H' s7 /\ tn i s7.heap /\ (∀ b ∈ fp,H' b=none) /\ W i m σ' H':=fun {σ7 H7} I7 n7=>by
      obtain ⟨m',hm,w7⟩:=hN σ7 H7 n7
      refine ⟨m',hm,i + 1,σ7,H7,I7.unpinned,T.keep _ _ _ st5 fun b hb o e=>(I7.pin (b,o) (List.mem_append_right _ (List.mem_append_right _ (Z3V hb e)))).1,fun b hb=>?_,w7⟩
      obtain ⟨o,e,d⟩:=T.obj _ _ st5 b hb
      exact (I7.pin (b,o) (List.mem_append_right _ (List.mem_append_right _ (Z3V hb e)))).2.1
    cases f with
    | next=>obtain ⟨σ7,H7,I7,n7⟩:=q7; exact again I7 n7
    | cont=>obtain ⟨σ7,H7,I7,n7⟩:=q7; exact again I7 n7
    | brk=>obtain ⟨σ7,H7,I7,q7⟩:=q7; exact ⟨σ7,H7,I7.unpinned,q7⟩
    | ret v=>obtain ⟨x7,σ7,H7,I7,r7,q7⟩:=q7; exact ⟨x7,σ7,H7,I7.unpinned,r7,q7⟩
end
noncomputable abbrev R2:=V -> V -> Hp -> VK -> Prop
noncomputable def OpR (X:Cx) (f:Value -> Value -> Sem Value) (r:R2):Prop :=
  ∀ (pins:List (Addr × Obj)) (s:Shared) (σ:St) (H:Hp) (x y:V) (v u:Value) (Q:VK),Inv X pins σ H s -> RelV x v -> RelV y u -> r x y H Q ->
    wpAny (model X.prog X.w) X.A (f v u) (EP X pins σ Q) X.xe s
noncomputable def UnR (X:Cx) (f:Value -> Sem Value) (r:V -> Hp -> VK -> Prop):Prop :=
  ∀ (pins:List (Addr × Obj)) (s:Shared) (σ:St) (H:Hp) (x:V) (v:Value) (Q:VK),Inv X pins σ H s -> RelV x v -> r x H Q ->
    wpAny (model X.prog X.w) X.A (f v) (EP X pins σ Q) X.xe s
noncomputable def CallR (X:Cx) (f:Value) (r:List V -> Hp -> VK -> Prop):Prop :=
  ∀ (pins:List (Addr × Obj)) (s:Shared) (σ:St) (H:Hp) (xs:List V) (us:List Value) (Q:VK),Inv X pins σ H s -> Vals xs us -> r xs H Q ->
    wpAny (model X.prog X.w) X.A (call f us) (EP X pins σ Q) X.xe s
noncomputable def tOp (r:R2) (ta tb:TE):TE:=fun σ H Q=>ta σ H fun x H1=>tb σ H1 fun y H2=>r x y H2 Q
noncomputable def tUn (r:V -> Hp -> VK -> Prop) (ta:TE):TE:=fun σ H Q=>ta σ H fun x H1=>r x H1 Q
noncomputable def rI (C:Int -> Int -> Prop) (g:Int -> Int -> V):R2:=fun x y H Q=>∃ i j,x=.int i /\ y=.int j /\ C i j /\ Q (g i j) H
noncomputable def rI0 (g:Int -> Int -> V):R2:=fun x y H Q=>∃ i j,x=.int i /\ y=.int j /\ Q (g i j) H
noncomputable def rU (g:Int -> V):V -> Hp -> VK -> Prop:=fun x H Q=>∃ i,x=.int i /\ Q (g i) H
section
variable {X:Cx} {a b c:Expr} {ta tb tc:TE} {pos:Pos}
theorem binT (ha:PE X a ta) (hb:PE X b tb) {pins:List (Addr × Obj)} {s:Shared} {σ:St} {H:Hp} {R:V -> V -> Hp -> Prop} (I:Inv X pins σ H s)
    (h:ta σ H fun x H1=>tb σ H1 fun y H2=>R x y H2) {Q:Value -> Shared -> Prop} {f:Value -> Value -> Sem Value}
    (hf:∀ v u s2 x y H2,Inv X pins σ H2 s2 -> RelV x v -> RelV y u -> R x y H2 -> wpAny (model X.prog X.w) X.A (f v u) Q X.xe s2) :
    wpAny (model X.prog X.w) X.A (eval a X.env) (fun v s₁=>wpAny (model X.prog X.w) X.A (eval b X.env) (fun u s₂=>wpAny (model X.prog X.w) X.A (f v u) Q X.xe s₂) X.xe s₁) X.xe s:=by
  refine thn (ha pins s σ H _ I h) fun v s1 ⟨x,H1,I1,r1,q1⟩=>?_
  refine thn (hb pins s1 σ H1 _ I1 q1) fun u s2 ⟨y,H2,I2,r2,q2⟩=>?_
  exact hf v u s2 x y H2 I2 r1 r2 q2
theorem pe_op {op:Operator} {r:R2} (ho:OpR X (binaryOp op) r) (ha:PE X a ta) (hb:PE X b tb):PE X (.BinOp a op b pos) (tOp r ta tb):=by
  intro pins s σ H Q I h
  exact wpAny_BinOp (binT ha hb I h fun v u s2 x y H2 I2 rx ry q=>ho pins s2 σ H2 x y v u Q I2 rx ry q)
theorem ZfR {op:UnaryOp} {r:V -> Hp -> VK -> Prop} (ho:UnR X (unaryOp op) r) (ha:PE X a ta):PE X (.UnaryOp op a pos) (tUn r ta):=by
  intro pins s σ H Q I h
  exact UnaryOp_ (thn (ha pins s σ H _ I h) fun v s1 ⟨x,H1,I1,r1,q1⟩=>ho pins s1 σ H1 x v Q I1 r1 q1)
theorem opI {f:Value -> Value -> Sem Value} {C:Int -> Int -> Prop} {g:Int -> Int -> Int}
    (rule:∀ (i j:Int) (t u:Tok) (s:Shared) (Q:Value -> Shared -> Prop) (E:Value -> Shared -> Prop),C i j -> Q (.int (g i j) s.toks) { s with toks:=s.toks + 1 } -> wpAny (model X.prog X.w) X.A (f (.int i t) (.int j u)) Q E s) :
    OpR X f (rI C fun i j=>.int (g i j)):=by
  intro pins s σ H x y v u Q I rx ry h
  obtain ⟨i,j,rfl,rfl,hc,q⟩:=h
  obtain ⟨t,rfl⟩:=rx
  obtain ⟨t',rfl⟩:=ry
  exact rule i j t t' s _ _ hc ⟨.int (g i j),H,I.tok _,⟨_,rfl⟩,q⟩
theorem opI0 {f:Value -> Value -> Sem Value} {g:Int -> Int -> Int}
    (rule:∀ (i j:Int) (t u:Tok) (s:Shared) (Q:Value -> Shared -> Prop) (E:Value -> Shared -> Prop),Q (.int (g i j) s.toks) { s with toks:=s.toks + 1 } -> wpAny (model X.prog X.w) X.A (f (.int i t) (.int j u)) Q E s) :
    OpR X f (rI0 fun i j=>.int (g i j)):=by
  intro pins s σ H x y v u Q I rx ry h
  obtain ⟨i,j,rfl,rfl,q⟩:=h
  obtain ⟨t,rfl⟩:=rx
  obtain ⟨t',rfl⟩:=ry
  exact rule i j t t' s _ _ ⟨.int (g i j),H,I.tok _,⟨_,rfl⟩,q⟩
theorem opB0 {f:Value -> Value -> Sem Value} {g:Int -> Int -> Bool}
    (rule:∀ (i j:Int) (t u:Tok) (s:Shared) (Q:Value -> Shared -> Prop) (E:Value -> Shared -> Prop),Q (.bool (g i j)) s -> wpAny (model X.prog X.w) X.A (f (.int i t) (.int j u)) Q E s) :
    OpR X f (rI0 fun i j=>.bl (g i j)):=by
  intro pins s σ H x y v u Q I rx ry h
  obtain ⟨i,j,rfl,rfl,q⟩:=h
  obtain ⟨t,rfl⟩:=rx
  obtain ⟨t',rfl⟩:=ry
  exact rule i j t t' s _ _ ⟨.bl (g i j),H,I,rfl,q⟩
noncomputable def CPow (i j:Int):Prop:=0 <= j /\ j <= 1000000 /\ i.natAbs < 2 ^ 64
noncomputable def CMul (i j:Int):Prop:=(-(2 ^ 64) < i /\ i < 2 ^ 64) \/ (-(2 ^ 64) < j /\ j < 2 ^ 64)
theorem CMul.ok {i j:Int} (h:CMul i j):IntMulOk i j:=by
  rcases h with ⟨h1,h2⟩ | ⟨h1,h2⟩
  . exact .of_left (intBits_le_64 h1 h2)
  . exact .of_right (intBits_le_64 h1 h2)
theorem Z1T:OpR X (binaryOp .Add) (rI0 fun i j=>.int (i + j)):=opI0 fun _ _ _ _ _ _ _ q=>add_int q
theorem Z1S:OpR X (binaryOp .Sub) (rI0 fun i j=>.int (i - j)):=opI0 fun _ _ _ _ _ _ _ q=>sub_int q
theorem Z1Y:OpR X (binaryOp .Mod) (rI (fun _ j=>0 < j) fun i j=>.int (i % j)):=opI fun i j _ _ _ _ _ hc q=>by
  have h1:(0:Int) < j:=hc
  exact mod_int' (by omega) (by rw [Int.fmod_eq_emod_of_nonneg i (by omega)]; exact q)
theorem ZcX:OpR X (binaryOp .Pow) (rI CPow fun i j=>.int (i ^ j.toNat)):=opI fun _ _ _ _ _ _ _ hc q=>pow_int_small hc.1 hc.2.1 hc.2.2 q
theorem Zd0:OpR X (binaryOp .BitAnd) (rI0 fun i j=>.int (Builtin.bitAnd i j)):=opI0 fun _ _ _ _ _ _ _ q=>and_int q
theorem ZaG:OpR X (binaryOp .BitOr) (rI0 fun i j=>.int (Builtin.bitOr i j)):=opI0 fun _ _ _ _ _ _ _ q=>or_int q
theorem Z5v:OpR X (binaryOp .BitXor) (rI0 fun i j=>.int (Builtin.bitXor i j)):=opI0 fun _ _ _ _ _ _ _ q=>xor_int q
theorem unI {f:Value -> Sem Value} {g:Int -> Int}
    (rule:∀ (i:Int) (t:Tok) (s:Shared) (Q:Value -> Shared -> Prop) (E:Value -> Shared -> Prop),Q (.int (g i) s.toks) { s with toks:=s.toks + 1 } -> wpAny (model X.prog X.w) X.A (f (.int i t)) Q E s) :
    UnR X f (rU fun i=>.int (g i)):=by
  intro pins s σ H x v Q I rx h
  obtain ⟨i,rfl,q⟩:=h
  obtain ⟨t,rfl⟩:=rx
  exact rule i t s _ _ ⟨.int (g i),H,I.tok _,⟨_,rfl⟩,q⟩
theorem Zeu:UnR X (unaryOp .USub) (rU fun i=>.int (-i)):=unI fun _ _ _ _ _ q=>neg_int q
end
section
variable {X:Cx} {a b c:Expr} {ta tb tc:TE} {pos:Pos}
theorem Zd7 {pins:List (Addr × Obj)} {σ:St} {H:Hp} {s:Shared} {Q:VK} {k k':Bool} (I:Inv X pins σ H s) (q:Q (.bl k) H) (e:k=k'):EP X pins σ Q (.bool k') s:=by
  subst e
  exact ⟨.bl k,H,I,rfl,q⟩
theorem ZfV:OpR X (compareOp .Lt) (rI0 fun i j=>.bl (decide (i < j))):=opB0 fun _ _ _ _ _ _ _ q=>lt_int q
theorem ZdW:OpR X (compareOp .Gt) (rI0 fun i j=>.bl (decide (j < i))):=opB0 fun _ _ _ _ _ _ _ q=>gt_int q
theorem ZfW:OpR X (compareOp .GtE) (rI0 fun i j=>.bl (decide (j <= i))):=opB0 fun _ _ _ _ _ _ _ q=>ge_int q
theorem ZaI:OpR X (compareOp .In) (fun x y H Q=>∃ i j,x=.str i /\ y=.str j /\ Q (.bl (!(Builtin.Str.occurrences j i 0 j.length 1).isEmpty)) H):=by
  intro pins s σ H x y v u Q I rx ry h
  obtain ⟨i,j,rfl,rfl,q⟩:=h
  obtain ⟨t,rfl⟩:=rx
  obtain ⟨t',rfl⟩:=ry
  exact in_str (Zd7 I q rfl)
theorem ZdV:OpR X (compareOp .IsNot) (fun x y H Q=>y=.non /\ Q (.bl (!decide (x=.non))) H):=by
  intro pins s σ H x y v u Q I rx ry h
  obtain ⟨rfl,q⟩:=h
  cases ry
  refine isnot_none_gen (Zd7 I q ?_)
  cases x <;> first
    | (cases rx; rfl)
    | (obtain ⟨t,rfl⟩:=rx; rfl)
theorem OpR.or {f:Value -> Value -> Sem Value} {r r':R2} (h:OpR X f r) (h':OpR X f r'):OpR X f (fun x y H Q=>r x y H Q \/ r' x y H Q):=by
  intro pins s σ H x y v u Q I rx ry q
  rcases q with q | q
  . exact h pins s σ H x y v u Q I rx ry q
  . exact h' pins s σ H x y v u Q I rx ry q
theorem Z4Y (b:Expr) {op:CmpOp} (h:op ≠ .In:=by decide) (h2:op ≠ .NotIn:=by decide):behindInMarks op b=false:=by
  have e1:(op == CmpOp.In)=false:=by cases op <;> first | rfl | exact absurd rfl h
  have e2:(op == CmpOp.NotIn)=false:=by cases op <;> first | rfl | exact absurd rfl h2
  cases b <;> simp [behindInMarks,e1,e2]
theorem ZaE {op:CmpOp} {r:R2} (ho:OpR X (compareOp op) r) (ha:PE X a ta) (hb:PE X b tb) (hm:behindInMarks op b=false):PE X (.Compare a [op] [b] pos) (tOp r ta tb):=by
  intro pins s σ H Q I h
  exact wpAny_Compare1 (binT ha hb I h fun v u s2 x y H2 I2 rx ry q=>ho pins s2 σ H2 x y v u Q I2 rx ry q) hm
noncomputable def Zfz (t:TE):TT:=fun σ H Q=>t σ H fun x H'=>∃ k,x=.bl k /\ Q k H'
theorem ZdG {op:CmpOp} {r:R2} (ho:OpR X (compareOp op) r) (ha:PE X a ta) (hb:PE X b tb) (hm:behindInMarks op b=false):PT X (.Compare a [op] [b] pos) (Zfz (tOp r ta tb)):=by
  intro pins s σ H Q I h
  refine wpAny_isTrue_Compare1 (thn (ha pins s σ H _ I h) fun v s1 ⟨x,H1,I1,r1,q1⟩=>thn (hb pins s1 σ H1 _ I1 q1) fun u s2 ⟨y,H2,I2,r2,q2⟩ =>
    thn (ho pins s2 σ H2 x y v u _ I2 r1 r2 q2) fun c s3 ⟨z,H3,I3,r3,k,e,q3⟩=>?_) hm
  subst e
  cases r3
  exact wpAny_truthy_bool ⟨H3,I3,q3⟩
theorem Z6j:(sizeLine:Nat) < 2 ^ 63:=by rw [sizeLine_eq]; decide
theorem Z6z {x:V} {us:List Value} (r:Vals [x] us):∃ u,us=[u] /\ RelV x u:=by
  cases r with
  | cons r1 r2=>cases r2; exact ⟨_,rfl,r1⟩
theorem Zet {x y:V} {us:List Value} (r:Vals [x,y] us):∃ u w',us=[u,w'] /\ RelV x u /\ RelV y w':=by
  cases r with
  | cons r1 r2 =>
    cases r2 with
    | cons r3 r4=>cases r4; exact ⟨_,_,rfl,r1,r3⟩
theorem Zbw (hc:X.calm=true):CallR X (.builtin "min") (fun xs H Q=>∃ i j,xs=[.int i,.int j] /\ Q (.int (if j < i then j else i)) H):=by
  intro pins s σ H xs us Q I r h
  obtain ⟨i,j,rfl,q⟩:=h
  obtain ⟨u,w',rfl,⟨t,rfl⟩,⟨t',rfl⟩⟩:=Zet r
  refine min_two_ints (I.ok.hd hc) fun h' tk k=>⟨_,H,I.kept k,?_,q⟩
  by_cases hj:j < i
  . rw [if_pos hj,if_pos hj]; exact ⟨_,rfl⟩
  . rw [if_neg hj,if_neg hj]; exact ⟨_,rfl⟩
theorem Zbx:CallR X (.type "int") (fun xs H Q=>(∃ i,xs=[.int i] /\ Q (.int i) H) \/ ∃ k,xs=[.bl k] /\ Q (.int (if k then 1 else 0)) H):=by
  intro pins s σ H xs us Q I r h
  rcases h with ⟨i,rfl,q⟩ | ⟨k,rfl,q⟩
  . obtain ⟨u,rfl,t,rfl⟩:=Z6z r
    exact call_int_int ⟨.int i,H,I,⟨_,rfl⟩,q⟩
  . obtain ⟨u,rfl,r1⟩:=Z6z r
    cases r1
    exact call_int_bool ⟨.int (if k then 1 else 0),H,I.tok _,⟨_,rfl⟩,q⟩
end
structure ObjM (h:Heap) (x dx C:Addr) (mA:Str -> Option Value):Prop where
  obj:h.get? x=some (PySem.W.instObj C dx)
  ns:h.Ns1 dx mA
  ne:dx ≠ x
theorem ZaT {h:Heap} {dx:Addr} {mA:Str -> Option Value} (n:h.Ns1 dx mA):∃ od,h.get? dx=some od /\ ∀ name,PySem.W.lookIn name od=some (mA name):=by
  obtain ⟨o,es,ep,ho,hd,hk,_,hm⟩:=n
  refine ⟨o,ho,fun name=>?_⟩
  have e:=hm name
  unfold nsFind findBy at e
  rw [<- Array.find?_toList] at e
  unfold PySem.W.lookIn
  rw [hd]
  dsimp only
  split
  . rename_i y q
    rw [q] at e
    exact congrArg some e
  . rename_i q
    rw [q] at e
    have a:es.toList.any (·.refKey)=false:=by
      rw [List.any_eq_false]
      intro y hy
      obtain ⟨z,t,hkey⟩:=hk y (Array.mem_toList_iff.mp hy)
      simp [DictEntry.refKey,hkey]
    have a':¬ es.toList.any (·.refKey)=true:=by rw [a]; exact Bool.false_ne_true
    rw [if_neg a']
    exact congrArg some e
theorem ObjM.look {h:Heap} {x dx C:Addr} {mA:Str -> Option Value} (I:ObjM h x dx C mA):∃ od,PySem.W.InstAt h x (PySem.W.instObj C dx) C (some od) /\ ∀ name,PySem.W.lookIn name od=some (mA name) :=
  let ⟨od,ho,hl⟩:=ZaT I.ns
  ⟨od,⟨I.obj,rfl,rfl,ho⟩,hl⟩
section
variable {prog:Program} {w:World} {A:Around} {E:Value -> Shared -> Prop} {s:Shared} {K:Frag} {x dx C f:Addr} {mA:Str -> Option Value} {name:Str} {v:Value}
theorem Zec {expr:Bool} {Q:Value -> Shared -> Prop} (X:K.In s.heap) (I:ObjM s.heap x dx C mA) (hg:PySem.W.plainGet K C name=true) (hh:PySem.W.hasDictIn K C=true)
    (ha:PySem.W.findIn K (.ref C) name=some none) (hv:mA name=some v) (hv':PySem.W.handedIn v=true) (h:Q v { s with toks:=s.toks + 1 }) :
    wpAny (model prog w) A (getAttr (.ref x) name expr) Q E s:=by
  obtain ⟨od,J,hl⟩:=I.look
  exact PySem.W.get_value X J (PySem.W.plainGet_of hg).1 (PySem.W.findObj_own hh ha rfl (by rw [hl,hv])) hv' h
theorem Zdq {ns:List Str} {Q:Unit -> Shared -> Prop} (X:K.In s.heap) (I:ObjM s.heap x dx C mA)
    (hs:PySem.W.findIn K (.ref C) "__setattr__" = some (some (.builtin "object.__setattr__"))) (hp:PySem.W.plainOver K C=true) (ht:PySem.W.takerIn K C name=some none) (hh:PySem.W.hasDictIn K C=true)
    (hw:PySem.Within mA ns) (hsz:ns.length <= sizeLine)
    (h:∀ h',ObjM h' x dx C (fun y=>if y=name then some v else mA y) -> Heap.SameBut dx s.heap h' -> Q () { s with heap:=h',toks:=s.toks + 2 }) :
    wpAny (model prog w) A (setAttr (.ref x) name v) Q E s:=by
  obtain ⟨od,J,hl⟩:=I.look
  refine PySem.W.set_plain X J hs (PySem.W.osa_open (s:={ s with toks:=s.toks + 1 }) (r:=none) X J hp ht fun b=>?_)
  obtain ⟨cd,hc,hd'⟩:=PySem.W.any_some hh
  have hx:s.heap.get? x=some ⟨.ref C,some dx,.plain,#[]⟩:=I.obj
  refine wpAny_bind (wpAny_pure (wpAny_bind (wpAny_bind (wpAny_loadPart hx (wpAny_bind (PySem.W.Looks.here (s:={ s with toks:=s.toks + 1 }) (PySem.W.looks_clsIn X hc) ?_))))))
  rw [hd']
  refine wpAny_pure (a:=some dx) (wpAny_bind (wpAny_pure (wpAny_bind ?_)))
  refine wpAny_nsSet1 (s:={ s with toks:=s.toks + 1 }) I.ns fun h' hn2 hs2=>?_
  obtain ⟨oD,esD,epD,hoD,hdD,hcD⟩:=hn2.count (PySem.Within.cons name v hw)
  refine wpAny_bind (wpAny_lookBehind hoD (by rw [hdD]; exact pastItsLine_dict (Nat.le_trans hcD (by rw [List.length_cons]; omega))) ?_)
  exact wpAny_pure (h _ ⟨(hs2.2 _ (Ne.symm I.ne)).trans I.obj,hn2,I.ne⟩ hs2)
theorem Zcl {R:Result -> Shared -> Prop} {vs:List Value} {kw:List (Str × Value)} (X:K.In s.heap) (hm:PySem.W.makesIn K C=true)
    (hi:PySem.W.findIn K (.ref C) "__init__" = some (some (.ref f))) (hf:PySem.W.typeIn K (.ref f)=some (.type "function"))
    (h:codeAny (model prog w) (A.under (.builtin "type.__call__" ⟨.ref C :: vs,kw⟩)) (.call (.ref f) ⟨.ref (s.heap.objs.size + 1) :: vs,kw⟩) (PySem.W.InitBack (s.heap.objs.size + 1) R)
      { s with heap:=(s.heap.push PySem.W.emptyDict).push (PySem.W.instObj C s.heap.objs.size) }) :
    codeAny (model prog w) A (.call (.ref C) ⟨vs,kw⟩) R s:=by
  obtain ⟨hh,g,d,t,os⟩:=s
  exact PySem.W.make_core (PySem.W.makes_of X hm) (PySem.W.looks_findIn X hi) (fun self=>PySem.W.bind_fn X self hf) (.inl rfl) h
end
noncomputable def putF (f:Str) (v:V):List (Str × V) -> List (Str × V)
  | []=>[(f,v)]
  | (g,x) :: r=>if g=f then (g,v) :: r else (g,x) :: putF f v r
theorem Z5B (f g:Str) (v:V):∀ fs:List (Str × V),(putF f v fs).lookup g=if g=f then some v else fs.lookup g
  | []=>by
    show List.lookup g [(f,v)]=_
    by_cases h:g=f
    . have hb:(g == f)=true:=beq_iff_eq.mpr h
      simp only [List.lookup,hb,if_pos h]
    . have hb:(g == f)=false:=beq_eq_false_iff_ne.mpr h
      simp only [List.lookup,hb,if_neg h]
  | (k,x) :: r=>by
    have ih:=Z5B f g v r
    rw [show putF f v ((k,x) :: r)=(if k=f then (k,v) :: r else (k,x) :: putF f v r) from rfl]
    by_cases hk:k=f
    . rw [if_pos hk]
      by_cases h:g=k
      . have hb:(g == k)=true:=beq_iff_eq.mpr h
        simp only [List.lookup,hb,if_pos (h.trans hk)]
      . have hb:(g == k)=false:=beq_eq_false_iff_ne.mpr h
        simp only [List.lookup,hb,if_neg (fun e:g=f=>h (e.trans hk.symm))]
    . rw [if_neg hk]
      by_cases h:g=k
      . have hb:(g == k)=true:=beq_iff_eq.mpr h
        simp only [List.lookup,hb,if_neg (fun e:g=f=>hk (h.symm.trans e))]
      . have hb:(g == k)=false:=beq_eq_false_iff_ne.mpr h
        simp only [List.lookup,hb]
        exact ih
theorem Z5E (f:Str) (v:V):∀ fs:List (Str × V),f ∈ (putF f v fs).map (·.1) /\ ∀ g,g ∈ fs.map (·.1) -> g ∈ (putF f v fs).map (·.1)
  | []=>⟨by simp [putF],fun g h=>by simp at h⟩
  | (k,x) :: r=>by
    obtain ⟨i1,i2⟩:=Z5E f v r
    rw [show putF f v ((k,x) :: r)=(if k=f then (k,v) :: r else (k,x) :: putF f v r) from rfl]
    by_cases hk:k=f
    . rw [if_pos hk]
      subst hk
      exact ⟨by simp,fun g h=>by simpa using h⟩
    . rw [if_neg hk]
      refine ⟨?_,fun g h=>?_⟩
      . rw [List.map_cons]
        exact List.mem_cons_of_mem _ i1
      . rw [List.map_cons] at h ⊢
        rcases List.mem_cons.mp h with e | e
        . exact List.mem_cons.mpr (.inl e)
        . exact List.mem_cons_of_mem _ (i2 g e)
theorem Z5C (f:Str) (v:V):∀ fs:List (Str × V),(putF f v fs).length <= fs.length + 1
  | []=>by simp [putF]
  | (k,x) :: r=>by
    have ih:=Z5C f v r
    rw [show putF f v ((k,x) :: r)=(if k=f then (k,v) :: r else (k,x) :: putF f v r) from rfl]
    by_cases hk:k=f
    . rw [if_pos hk,List.length_cons,List.length_cons]; omega
    . rw [if_neg hk,List.length_cons,List.length_cons]; omega
theorem RelO.some_of {v:V} {o:Option Value} (r:RelO (some v) o):∃ u,o=some u /\ RelV v u:=by
  cases o with
  | none=>exact (show False from r).elim
  | some u=>exact ⟨u,rfl,r⟩
theorem Zb7 {v:V} {u:Value} (r:RelV v u):PySem.W.handedIn u=true:=by
  cases v with
  | non=>cases (show u=Value.none from r); rfl
  | bl b=>cases (show u=Value.bool b from r); rfl
  | int i=>obtain ⟨t,e⟩:=(show ∃ t,u=Value.int i t from r); cases e; rfl
  | str x=>obtain ⟨t,e⟩:=(show ∃ t,u=Value.str x t from r); cases e; rfl
  | byt b=>obtain ⟨t,e⟩:=(show ∃ t,u=Value.bytes b t from r); cases e; rfl
  | flt b=>obtain ⟨t,e⟩:=(show ∃ t,u=Value.float b t from r); cases e; rfl
  | ref a=>cases (show u=Value.ref a from r); rfl
  | ty n=>cases (show u=Value.type n from r); rfl
section
variable {P:Program} {w:World} {H H':Hp} {h h':Heap} {a C dx:Addr} {fs fs':List (Str × V)}
theorem Z8n (hok:HOk P w H h) (e:H a=some (.ins C dx fs)):∃ mA,ObjM h a dx C mA /\ (∀ f,RelO (fs.lookup f) (mA f)) /\ PySem.Within mA (fs.map (·.1)) /\ fs.length <= 1000 /\ H dx=some (.own a):=by
  obtain ⟨d,z,ne,ob,mA,n,r,q⟩:=(show ObjOk P w H h a (.ins C dx fs) from hok a _ e)
  exact ⟨mA,⟨ob,n,ne⟩,r,q,z,d⟩
end
structure Cls (K:Frag) (C:Addr):Prop where
  pg:PySem.W.plainGet K C Str.empty=true
  hd:PySem.W.hasDictIn K C=true
  po:PySem.W.plainOver K C=true
  sa:PySem.W.findIn K (.ref C) "__setattr__" = some (some (.builtin "object.__setattr__"))
theorem Cls.get {K:Frag} {C:Addr} (c:Cls K C) (f:Str):PySem.W.plainGet K C f=true:=c.pg
noncomputable def NoAttr (K:Frag) (C:Addr) (f:Str):Prop:=PySem.W.findIn K (.ref C) f=some none
theorem NoAttr.taker {K:Frag} {C:Addr} {f:Str} (n:NoAttr K C f):PySem.W.takerIn K C f=some none:=by
  unfold PySem.W.takerIn
  rw [show PySem.W.findIn K (.ref C) f=some none from n]
  rfl
structure Con (K:Frag) (C:Addr) (f:Str) (v:V) (u:Value):Prop where
  at_:PySem.W.findIn K (.ref C) f=some (some u)
  rel:RelV v u
  get:PySem.W.specialIn K u "__get__" = some none
  cp:PySem.W.copiedNames.contains f=false
structure Meth (K:Frag) (C:Addr) (m:Str) (f:Addr):Prop where
  at_:PySem.W.findIn K (.ref C) m=some (some (.ref f))
  fn:PySem.W.isFn K (.ref f)=true
  kp:keepIn K (.ref f)=true
section
variable {X:Cx} {pins:List (Addr × Obj)} {σ:St} {H:Hp} {s:Shared} {a C dx:Addr} {fs:List (Str × V)} {f:Str} {v:V} {A:Around} {E:Value -> Shared -> Prop}
theorem Z9N {b:Bool} {Q:Value -> Shared -> Prop} (I:Inv X pins σ H s) (e:H a=some (.ins C dx fs)) (c:Cls X.K C) (n:NoAttr X.K C f) (l:fs.lookup f=some v)
    (h:∀ u s',Inv X pins σ H s' -> RelV v u -> Q u s'):wpAny (model X.prog X.w) A (getAttr (.ref a) f b) Q E s:=by
  obtain ⟨mA,O,r,_,_,_⟩:=Z8n I.hok e
  obtain ⟨u,hu,ru⟩:=RelO.some_of (v:=v) (o:=mA f) (by rw [<- l]; exact r f)
  exact Zec I.kIn O (c.get f) c.hd n hu (Zb7 ru) (h u _ (I.tok _) ru)
theorem Z9p {y:V} {u:Value} {Q:Unit -> Shared -> Prop} (I:Inv X pins σ H s) (e:H a=some (.ins C dx fs)) (c:Cls X.K C) (n:NoAttr X.K C f) (hl:fs.length < 1000) (ry:RelV y u)
    (h:∀ s',Inv X pins σ (upd H a (.ins C dx (putF f y fs))) s' -> Q () s'):wpAny (model X.prog X.w) A (setAttr (.ref a) f u) Q E s:=by
  obtain ⟨mA,O,r,wi,_,ho⟩:=Z8n I.hok e
  have hz:(fs.map (·.1)).length <= sizeLine:=by rw [List.length_map,sizeLine_eq]; omega
  refine Zdq I.kIn O c.sa c.po n.taker c.hd wi hz fun h' O' sb=>h _ ?_
  have hd:∃ o,h'.get? dx=some o:=let ⟨o,_,_,e',_⟩:=O'.ns; ⟨o,e'⟩
  refine I.write (x:=a) (e:=dx) (by rw [e]; exact True.intro) (.inr ho) (fun b q hb z=>(sb.2 b hb).trans z) hd ?_
  refine ⟨by rw [Z0u O.ne]; exact ho,?_,O.ne,O'.obj,_,O'.ns,fun g=>?_,fun g hg=>?_⟩
  . have:=Z5C f y fs; omega
  . show RelO ((putF f y fs).lookup g) (if g=f then some u else mA g)
    rw [Z5B]
    by_cases q:g=f
    . rw [if_pos q,if_pos q]; exact ry
    . rw [if_neg q,if_neg q]; exact r g
  . by_cases q:g=f
    . rw [q]; exact (Z5E f y fs).1
    . refine (Z5E f y fs).2 g (wi g fun z=>hg ?_)
      show (if g=f then some u else mA g)=none
      rw [if_neg q]; exact z
theorem Inv.made (I:Inv X pins σ H s):Inv X pins σ (upd (upd H s.heap.objs.size (.own (s.heap.objs.size + 1))) (s.heap.objs.size + 1) (.ins C s.heap.objs.size []))
    { s with heap:=(s.heap.push PySem.W.emptyDict).push (PySem.W.instObj C s.heap.objs.size) }:=by
  have e1:(s.heap.push PySem.W.emptyDict).get? s.heap.objs.size=some PySem.W.emptyDict:=Heap.get?_push_size s.heap rfl
  have e2:((s.heap.push PySem.W.emptyDict).push (PySem.W.instObj C s.heap.objs.size)).get? (s.heap.objs.size + 1)=some (PySem.W.instObj C s.heap.objs.size):=by
    have:=Heap.get?_push_size (s.heap.push PySem.W.emptyDict) (o:=PySem.W.instObj C s.heap.objs.size) rfl
    rwa [Heap.size_push] at this
  have e3:(s.heap.push PySem.W.emptyDict).Ns s.heap.objs.size (fun _=>none):=⟨PySem.W.emptyDict,#[],_,e1,rfl,(fun e he=>absurd he (by simp)),fun _=>rfl⟩
  have I1:=I.laid (a:=s.heap.objs.size) (o:=.own (s.heap.objs.size + 1)) (h':=s.heap.push PySem.W.emptyDict) (t':=s.toks) (fun b u q=>Heap.get?_push_of_some _ q) (Nat.le_refl _) ⟨_,e1⟩
  refine I1.laid (a:=s.heap.objs.size + 1) (o:=.ins C s.heap.objs.size []) (t':=s.toks) (fun b u q=>Heap.get?_push_of_some _ q) (Nat.le_of_eq (Heap.size_push _ _)) ?_
  have ne:s.heap.objs.size ≠ s.heap.objs.size + 1:=Nat.ne_of_lt (Nat.lt_succ_self _)
  refine ⟨by rw [Z0u ne,Z0A],Nat.zero_le _,ne,e2,fun _=>none,(Heap.Ns1.of_empty e3).at fun o q=>Heap.get?_push_of_some _ q,fun _=>True.intro,fun y hy=>absurd rfl hy⟩
theorem Zen {prog:Program} {w:World} {env:Env} {e:Expr} {f:Str} {pos:Pos} {s:Shared} {Q:Value -> Shared -> Prop} (hb:attributeBase e f env (eval e env)=eval e env)
    (h:wpAny (model prog w) A (eval e env) (fun o s₁=>wpAny (model prog w) A (getAttr o f true) Q E s₁) E s):wpAny (model prog w) A (eval (.Attribute e f pos) env) Q E s :=
  Attribute_any_ h (by rw [arm_eval_Attribute,hb])
end
noncomputable def tFld (K:Frag) (ta:TE) (f:Str):TE:=fun σ H Q=>ta σ H fun x H1=>∃ a C dx fs v,x=.ref a /\ H1 a=some (.ins C dx fs) /\ Cls K C /\ NoAttr K C f /\ fs.lookup f=some v /\ Q v H1
noncomputable def sFld (K:Frag) (ta tv:TE) (f:Str):TS:=fun D σ H=>tv σ H fun y H1=>ta σ H1 fun x H2=>∃ a C dx fs,x=.ref a /\ H2 a=some (.ins C dx fs) /\ Cls K C /\ NoAttr K C f /\ fs.length < 1000 /\
  D.nx σ (upd H2 a (.ins C dx (putF f y fs)))
section
variable {X:Cx} {o e value:Expr} {f:Str} {pos pos' tpos:Pos} {ta tv:TE}
theorem Zf2 (he:PE X e ta) (hb:attributeBase e f X.env (eval e X.env)=eval e X.env):PE X (.Attribute e f pos) (tFld X.K ta f):=by
  intro pins s σ H Q I h
  refine Zen hb (thn (he pins s σ H _ I h) fun u s1 ⟨x,H1,I1,rx,a,C,dx,fs,v,ex,ea,c,n,l,q⟩=>?_)
  subst ex
  obtain rfl:u=Value.ref a:=rx
  exact Z9N I1 ea c n l fun u' s2 I2 ru=>⟨v,H1,I2,ru,q⟩
theorem ZaA (ha:PE X o ta) (hv:PE X value tv) (hs:swapsWith value (some (.Attribute o f pos')) pos.line X.env=pure false):PS X (.Assign [.Attribute o f pos'] value pos) (sFld X.K ta tv f):=by
  intro pins s σ H D I h
  refine plainObj_wpAny_Assign_Attribute (thn (hv pins s σ H _ I h) fun u s1 ⟨y,H1,I1,ry,q⟩=>thn (ha pins s1 σ H1 _ I1 q) fun ov s2 ⟨x,H2,I2,rx,a,C,dx,fs,ex,ea,c,n,l,q2⟩=>?_) hs
  subst ex
  obtain rfl:ov=Value.ref a:=rx
  exact Z9p I2 ea c n l ry fun s3 I3=>⟨σ,_,I3,q2⟩
end
section
variable {X:Cx} {pins:List (Addr × Obj)} {σ:St} {H:Hp} {s:Shared} {A:Around} {E:Value -> Shared -> Prop} {Q:Value -> Shared -> Prop} {c:Value} {b:Bool}
inductive TyOf (K:Frag) (H:Hp):V -> Value -> Prop where
  | non:TyOf K H .non (.type "NoneType")
  | bl (x:Bool):TyOf K H (.bl x) (.type "bool")
  | int (i:Int):TyOf K H (.int i) (.type "int")
  | str (x:Str):TyOf K H (.str x) (.type "str")
  | flt (x:UInt64):TyOf K H (.flt x) (.type "float")
  | lst {a:Addr} {xs:List V} (e:H a=some (.lst xs)):TyOf K H (.ref a) (.type "list")
  | frz {a:Addr} {o:Obj} {xs:List V} (e:H a=some (.frz o (.lst xs))):TyOf K H (.ref a) (.type "list")
  | tup {a:Addr} {xs:List V} (e:H a=some (.tup xs)):TyOf K H (.ref a) (.type "tuple")
  | dK {a:Addr} {kvs:List (Key × V)} (e:H a=some (.dK kvs)):TyOf K H (.ref a) (.type "dict")
  | dT {a:Addr} {kvs:List (List Key × V)} (e:H a=some (.dT kvs)):TyOf K H (.ref a) (.type "dict")
  | ins {a C dx:Addr} {fs:List (Str × V)} (e:H a=some (.ins C dx fs)) (cl:Cls K C) (ha:PySem.W.findIn K (.ref C) "__class__" = some (some (.builtin "object.__class__")))
      (hn:PySem.W.specialIn K (.builtin "object.__class__") "__get__" = some (some (.builtin "getset_descriptor.__get__"))) (htk:PySem.W.takesIn K (.builtin "object.__class__")=some true)
      (hm:PySem.W.mroIn K C (.type "object")=some true):TyOf K H (.ref a) (.ref C)
theorem Zb2 {x:V} {u t:Value} (I:Inv X pins σ H s) (rx:RelV x u) (ty:TyOf X.K H x t) (e:PySem.W.kitOne X.K t c=some b) (h:∀ tk,Q (.bool b) { s with toks:=tk }) :
    wpAny (model X.prog X.w) A (call (.builtin "isinstance") [u,c]) Q E s:=by
  cases ty with
  | non=>cases (show u=Value.none from rx); exact PySem.W.kia_one PySem.W.kitx_none I.kIn True.intro e (fun z=>nomatch z) h
  | bl y=>cases (show u=Value.bool y from rx); exact PySem.W.kia_one PySem.W.kitx_bool I.kIn True.intro e (fun z=>nomatch z) h
  | int i=>obtain ⟨t,q⟩:=(show ∃ t,u=Value.int i t from rx); cases q; exact PySem.W.kia_one PySem.W.kitx_int I.kIn True.intro e (fun z=>nomatch z) h
  | str y=>obtain ⟨t,q⟩:=(show ∃ t,u=Value.str y t from rx); cases q; exact PySem.W.kia_one PySem.W.kitx_str I.kIn True.intro e (fun z=>nomatch z) h
  | flt y=>obtain ⟨t,q⟩:=(show ∃ t,u=Value.float y t from rx); cases q; exact PySem.W.kia_one PySem.W.kitx_float I.kIn True.intro e (fun z=>nomatch z) h
  | @lst a xs ea =>
    cases (show u=Value.ref a from rx)
    obtain ⟨_,_,n,_,h1⟩:=(show ObjOk X.prog X.w H s.heap a (.lst xs) from I.hok a _ ea)
    exact PySem.W.kia_one PySem.W.kitx_list I.kIn ⟨_,h1,rfl⟩ e (fun z=>nomatch z) h
  | @frz a ob xs ea =>
    cases (show u=Value.ref a from rx)
    obtain ⟨_,_,_,n,_,h1⟩:=(show ObjOk X.prog X.w H s.heap a (.frz ob (.lst xs)) from I.hok a _ ea)
    exact PySem.W.kia_one PySem.W.kitx_list I.kIn ⟨_,h1,rfl⟩ e (fun z=>nomatch z) h
  | @tup a xs ea =>
    cases (show u=Value.ref a from rx)
    obtain ⟨_,_,_,p⟩:=(show ObjOk X.prog X.w H s.heap a (.tup xs) from I.hok a _ ea)
    obtain ⟨o,h1,h2,_⟩:=p
    exact PySem.W.kia_one PySem.W.kitx_tuple I.kIn ⟨o,h1,h2⟩ e (fun z=>nomatch z) h
  | @dK a kvs ea =>
    cases (show u=Value.ref a from rx)
    obtain ⟨_,_,vs,_,p⟩:=(show ObjOk X.prog X.w H s.heap a (.dK kvs) from I.hok a _ ea)
    obtain ⟨o,es,ep,h1,h2,_⟩:=p
    exact PySem.W.kia_one PySem.W.kitx_dict I.kIn ⟨o,h1,h2.1⟩ e (fun z=>nomatch z) h
  | @dT a kvs ea =>
    cases (show u=Value.ref a from rx)
    obtain ⟨_,_,xs,_,o,es,ep,h1,h2,_⟩:=(show ObjOk X.prog X.w H s.heap a (.dT kvs) from I.hok a _ ea)
    exact PySem.W.kia_one PySem.W.kitx_dict I.kIn ⟨o,h1,h2.1⟩ e (fun z=>nomatch z) h
  | @ins a C dx fs ea cl ha hn htk hm =>
    cases (show u=Value.ref a from rx)
    obtain ⟨mA,O,_⟩:=Z8n I.hok ea
    obtain ⟨od,J,_⟩:=O.look
    exact PySem.W.kia_one (PySem.W.kitx_own (cl.get _) cl.hd ha hn htk hm) I.kIn J e (fun z=>nomatch z) h
end
structure Room (k:Nat) (A:Around):Prop where
  hd:A.handled=none
  dp:A.depth + 3 * k + 5 < recursionLimit
  un:A.units + 16 * k + 200 < cLine
theorem Room.mono {j k:Nat} {A:Around} (r:Room k A) (h:j <= k):Room j A:=⟨r.hd,by have:=r.dp; omega,by have:=r.un; omega⟩
theorem Room.deeper {k:Nat} {A:Around} (r:Room (k + 1) A) (env:Env):Room k (A.deeper env) :=
  ⟨r.hd,by have:=r.dp; show A.depth + 1 + 3 * k + 5 < _; omega,by have:=r.un; show A.units + 3 + 16 * k + 200 < _; omega⟩
theorem Room.in1 {k:Nat} {A:Around} (r:Room (k + 1) A):Room k A.in1 :=
  ⟨r.hd,by have:=r.dp; show A.depth + 3 * k + 5 < _; omega,by have:=r.un; show A.units + 1 + 16 * k + 200 < _; omega⟩
theorem Z9F {A:Around} {C:Addr} {us:List Value} {kw:List (Str × Value)}:(A.under (.builtin "type.__call__" ⟨.ref C :: us,kw⟩)).depth=A.depth + 1:=by
  first | rfl | simp [Around.under,Code.weight,Code.isCreation,Code.isGuard,Code.isCaller,Code.frames,Code.isFrame,guardIds]
theorem Z9E {A:Around} {C:Addr} {us:List Value} {kw:List (Str × Value)}:(A.under (.builtin "type.__call__" ⟨.ref C :: us,kw⟩)).units=A.units + 1:=by
  first | rfl | simp [Around.under,Code.cUnits,Code.frames,Code.isFrame]
theorem Room.make {k:Nat} {A:Around} (r:Room (k + 1) A) (C:Addr) (us:List Value) (kw:List (Str × Value)):Room k (A.under (.builtin "type.__call__" ⟨.ref C :: us,kw⟩)) :=
  ⟨r.hd,by have:=r.dp; rw [Z9F]; omega,by have:=r.un; rw [Z9E]; omega⟩
theorem Room.depth {k:Nat} {A:Around} (r:Room k A):A.depth < recursionLimit:=by have:=r.dp; omega
theorem Room.units {k:Nat} {A:Around} (r:Room k A):A.units + 64 < cLine:=by have:=r.un; omega
noncomputable def tNil:TA:=fun _ H Q=>Q [] H
noncomputable def ZeB (ta:TE) (tr:TA):TA:=fun σ H Q=>ta σ H fun x H1=>tr σ H1 fun xs H2=>Q (x :: xs) H2
section
variable {X:Cx} {e:Expr} {es:List Expr} {te:TE} {t:TA} {pos:Pos}
theorem Z8S:PA X [] tNil:=fun _ _ _ _ H Q I h=>Calls.spliced_nil ⟨[],H,I,.nil,h⟩
theorem Z4N (ha:PE X e te) (hr:PA X es t) (hs:starEach (e :: es) X.env=(false,eval e X.env) :: starEach es X.env:=by rfl):PA X (e :: es) (ZeB te t):=by
  intro pos pins s σ H Q I h
  rw [hs]
  show wpAny _ _ (spliced ((false,eval e X.env) :: backTo pos (starEach es X.env))) _ _ s
  refine Calls.spliced_cons (thn (ha pins s σ H _ I h) fun u s1 ⟨x,H1,I1,r1,q1⟩=>?_)
  exact thn (hr pos pins s1 σ H1 _ I1 q1) fun us s2 ⟨xs,H2,I2,r2,q2⟩=>⟨x :: xs,H2,I2,.cons r1 r2,q2⟩
noncomputable def tTup (t:TA):TE:=fun σ H Q=>t σ H fun xs H1=>xs.length <= sizeLine /\ ∀ p,H1 p=none -> Q (.ref p) (upd H1 p (.tup xs))
noncomputable def tLst (t:TA):TE:=fun σ H Q=>t σ H fun xs H1=>xs.length <= sizeLine /\ ∀ p,H1 p=none -> Q (.ref p) (upd H1 p (.lst xs))
theorem pe_tup {x1} (h:PA X es t):PE X (.Tuple es x1 pos) (tTup t):=by
  intro pins s σ H Q I hq
  refine wpAny_Tuple_spliced (thn (h pos pins s σ H _ I hq) fun us s1 ⟨xs,H1,I1,r,z,q⟩=>⟨by rw [<- r.length]; exact z,?_⟩)
  have hf:H1 s1.heap.objs.size=none:=I1.hok.fresh (Nat.le_refl _)
  refine ⟨.ref s1.heap.objs.size,upd H1 s1.heap.objs.size (.tup xs),I1.laid (t':=s1.toks) (fun b u e=>Heap.get?_push_of_some _ e) (Nat.le_refl _) ?_,rfl,q _ hf⟩
  exact ⟨z,us,r,⟨_,Heap.get?_push_size _ rfl,rfl,_,rfl⟩⟩
theorem pe_lst (h:PA X es t):PE X (.List es pos) (tLst t):=by
  intro pins s σ H Q I hq
  refine wpAny_List_spliced (thn (h pos pins s σ H _ I hq) fun us s1 ⟨xs,H1,I1,r,z,q⟩=>⟨by rw [<- r.length]; exact z,?_⟩)
  have hf:H1 s1.heap.objs.size=none:=I1.hok.fresh (Nat.le_refl _)
  refine ⟨.ref s1.heap.objs.size,upd H1 s1.heap.objs.size (.lst xs),I1.laid (t':=s1.toks) (fun b u e=>Heap.get?_push_of_some _ e) (Nat.le_refl _) ?_,rfl,q _ hf⟩
  exact ⟨z,us,0,r,Heap.get?_push_size _ rfl⟩
end
noncomputable abbrev Sp:=List V -> Hp -> VK -> XK -> Prop
noncomputable abbrev CXT:=List Env -> Hp -> Shared -> XK -> Value -> Shared -> Prop
structure Env0 (P:Program) (w:World) (K:Frag) (mg:Str -> Option Value) (base:Heap) (A:Around) (outer:List Env) (s:Shared) (H:Hp):Prop where
  frames:A.frames=some outer
  mod:Mod K mg base
  bs:∀ b o,base.get? b=some o -> s.heap.get? b=some o /\ H b=none
  bsz:base.objs.size <= s.heap.objs.size
  funs:s.heap.FunFrames base outer
  frf:∀ b ∈ frs outer,H b=none
  hok:HOk P w H s.heap
  bare:AllBare s.gens
noncomputable def CE (outer:List Env) (P:Program) (w:World) (H:Hp) (s:Shared) (Q:VK) (u:Value) (s':Shared):Prop :=
  ∃ v H',s'.os=s.os /\ AllBare s'.gens /\ Un (frs outer) [] H H' s.heap s'.heap /\ HOk P w H' s'.heap /\ RelV v u /\ Q v H'
noncomputable def CR (CX:CXT) (outer:List Env) (P:Program) (w:World) (H:Hp) (s:Shared) (Q:VK) (E:XK) (r:Result) (s':Shared):Prop :=
  match r with
  | .ok (.ret u)=>CE outer P w H s Q u s'
  | .ok _=>False
  | .error e=>CX outer H s E e s'
structure FnOk (P:Program) (w:World) (K:Frag) (mg:Str -> Option Value) (base:Heap) (CX:CXT) (k:Nat) (f:Addr) (fd:FuncData) (ps:List Str) (sp:Sp):Prop where
  len:∀ vs H Q E,sp vs H Q E -> vs.length=ps.length
  run:∀ (A:Around) (outer:List Env) (s:Shared) (H:Hp) (args:Args) (us:List Value) (vs:List V) (Q:VK) (E:XK),Room k A -> Env0 P w K mg base A outer s H -> BindsTo s fd args (ps.zip us) -> Vals vs us -> sp vs H Q E ->
    codeAny (model P w) A (.call (.ref f) args) (CR CX outer P w H s Q E) s
theorem FnOk.mono {P:Program} {w:World} {K:Frag} {mg:Str -> Option Value} {base:Heap} {CX:CXT} {j k:Nat} {f:Addr} {fd:FuncData} {ps:List Str} {sp:Sp} (F:FnOk P w K mg base CX j f fd ps sp) (h:j <= k) :
    FnOk P w K mg base CX k f fd ps sp:=⟨F.len,fun A outer s H args us vs Q E hr=>F.run A outer s H args us vs Q E (hr.mono h)⟩
theorem FnOk.imp {P:Program} {w:World} {K:Frag} {mg:Str -> Option Value} {base:Heap} {CX:CXT} {k:Nat} {f:Addr} {fd:FuncData} {ps:List Str} {sp sp':Sp} (F:FnOk P w K mg base CX k f fd ps sp)
    (h:∀ vs H Q E,sp' vs H Q E -> sp vs H Q E):FnOk P w K mg base CX k f fd ps sp' :=
  ⟨fun vs H Q E q=>F.len vs H Q E (h _ _ _ _ q),fun A outer s H args us vs Q E hr he hb hv hs=>F.run A outer s H args us vs Q E hr he hb hv (h _ _ _ _ hs)⟩
theorem Env0.make {P:Program} {w:World} {K:Frag} {mg:Str -> Option Value} {base:Heap} {A:Around} {outer:List Env} {s:Shared} {H:Hp} (e:Env0 P w K mg base A outer s H) (C:Addr) (us:List Value) (kw:List (Str × Value)) :
    Env0 P w K mg base (A.under (.builtin "type.__call__" ⟨.ref C :: us,kw⟩)) outer s H:=⟨by first | exact e.frames | (simpa [Around.under,Code.envs,Code.isFrame,pushEnvs] using e.frames),e.mod,e.bs,e.bsz,e.funs,e.frf,e.hok,e.bare⟩
theorem Env0.in1 {P:Program} {w:World} {K:Frag} {mg:Str -> Option Value} {base:Heap} {A:Around} {outer:List Env} {s:Shared} {H:Hp} (e:Env0 P w K mg base A outer s H) :
    Env0 P w K mg base A.in1 outer s H:=⟨e.frames,e.mod,e.bs,e.bsz,e.funs,e.frf,e.hok,e.bare⟩
section
variable {X:Cx} {pins:List (Addr × Obj)} {σ:St} {H:Hp} {s s':Shared}
theorem Inv.env0 (I:Inv X pins σ H s):Env0 X.prog X.w X.K X.mg X.base X.A X.stack s H :=
  ⟨I.ok.frames,I.ok.mod,I.bs,Nat.le_trans I.ok.bsz I.sz,I.stack,I.stkFree,I.hok,I.bare⟩
theorem Inv.after {Q:VK} {u:Value} (I:Inv X pins σ H s) (h:CE X.stack X.prog X.w H s Q u s'):EP X pins σ Q u s':=by
  obtain ⟨v,H',os,bare,un,hok,r,q⟩:=h
  obtain ⟨hh,g,d,t,os'⟩:=s'
  obtain rfl:os'=s.os:=os
  exact ⟨v,H',I.call (h':=hh) (g':=g) (d':=d) (t':=t) (ch:=[]) un hok bare (fun b z=>absurd z (by simp)),r,q⟩
end
noncomputable def ZfG (sp:Sp) (dvs:List V) (E:XK) (t:TA):TE:=fun σ H Q=>t σ H fun vs H1=>sp (vs ++ dvs) H1 Q E
noncomputable def ZfC (C:Addr) (sp:Sp) (dvs:List V) (E:XK) (t:TA):TE:=fun σ H Q=>t σ H fun vs H1=>∀ x dx,H1 x=none -> H1 dx=none -> dx ≠ x ->
  sp (.ref x :: (vs ++ dvs)) (upd (upd H1 dx (.own x)) x (.ins C dx [])) (fun v H2=>v=.non /\ Q (.ref x) H2) E
noncomputable def Binds (K:Frag) (fd:FuncData) (ps:List Str) (ds:List Value):Prop :=
  ∀ (s:Shared) (us:List Value),K.In s.heap -> (us ++ ds).length=ps.length -> BindsTo s fd ⟨us,[]⟩ (ps.zip (us ++ ds))
theorem Binds.all {K:Frag} {fd:FuncData} {ps:List Str} (h:∀ us:List Value,us.length=ps.length -> bindArgs fd ⟨us,[]⟩=pure (ps.zip us)):Binds K fd ps []:=fun s us _ hl=>by
  rw [List.append_nil] at hl ⊢
  exact .of_eq (h us hl)
noncomputable def Z83 (CX:CXT) (X:Cx) (E:XK):Prop:=∀ (pins:List (Addr × Obj)) (σ:St) (H:Hp) (s:Shared) (e:Value) (s':Shared),Inv X pins σ H s -> CX X.stack H s E e s' -> X.xe e s'
section
variable {X:Cx} {CX:CXT} {k:Nat} {f C:Addr} {fd:FuncData} {ps:List Str} {sp:Sp} {dvs:List V} {ds:List Value} {E:XK} {x m:Str} {p pos apos:Pos} {e o:Expr} {es:List Expr} {ta:TE} {t:TA}
theorem ZeF {pins:List (Addr × Obj)} {σ:St} {H:Hp} {s:Shared} {Q:VK} {us:List Value} {vs:List V} (F:FnOk X.prog X.w X.K X.mg X.base CX k f fd ps sp) (hr:Room k X.A) (hb:Binds X.K fd ps ds) (hd:Vals dvs ds) (hx:Z83 CX X E)
    (I:Inv X pins σ H s) (r:Vals vs us) (h:sp (vs ++ dvs) H Q E):wpAny (model X.prog X.w) X.A (call (.ref f) us) (EP X pins σ Q) X.xe s:=by
  have r2:Vals (vs ++ dvs) (us ++ ds):=r.append hd
  have hl:(us ++ ds).length=ps.length:=by rw [<- r2.length]; exact F.len _ _ _ _ h
  refine wpAny_call (codeAny_mono (F.run X.A X.stack s H ⟨us,[]⟩ (us ++ ds) (vs ++ dvs) Q E hr I.env0 (hb s us I.kIn hl) r2 h) fun r s' hq=>?_)
  cases r with
  | error e=>exact hx pins σ H s e s' I hq
  | ok fl =>
    cases fl with
    | ret u=>exact I.after hq
    | next=>exact False.elim hq
    | brk=>exact False.elim hq
    | cont=>exact False.elim hq
theorem pe_call (F:FnOk X.prog X.w X.K X.mg X.base CX k f fd ps sp) (hr:Room k X.A) (hg:Gl X x) (hm:X.mg x=some (.ref f)) (hk:keepIn X.K (.ref f)=true) (hb:Binds X.K fd ps ds) (hd:Vals dvs ds) (hx:Z83 CX X E)
    (ha:PA X (e :: es) t) (hdb:(x == ("__debug__" : Str))=false:=by decide) (he:starEach (e :: es) X.env=(false,eval e X.env) :: starEach es X.env:=by rfl) (hpl:(backTo pos (starEach es X.env)).any (·.1)=false:=by rfl) :
    PE X (.Call (.Name x p) (e :: es) [] pos) (ZfG sp dvs E t):=by
  intro pins s σ H Q I h
  refine wpAny_Call_Name_kw (Z8k I hg hm ?_ hdb)
  refine PySem.W.callWith_K (h₀:=X.base) I.ok.mod.kin hk (thn (ha pos pins s σ H _ I h) fun us s1 ⟨vs,H1,I1,r,q⟩=>⟨I1.kIn,?_⟩) he hpl
  exact ZeF F hr hb hd hx I1 r q
structure Mk (K:Frag) (C f:Addr):Prop where
  makes:PySem.W.makesIn K C=true
  init:PySem.W.findIn K (.ref C) "__init__" = some (some (.ref f))
  fn:PySem.W.isFn K (.ref f)=true
  kp:keepIn K (.ref C)=true
theorem ZbT {pins:List (Addr × Obj)} {σ:St} {H:Hp} {s:Shared} {Q:VK} {us:List Value} {vs:List V} (M:Mk X.K C f) (F:FnOk X.prog X.w X.K X.mg X.base CX k f fd ps sp) (hr:Room (k + 1) X.A) (hb:Binds X.K fd ps ds) (hd:Vals dvs ds)
    (hx:Z83 CX X E) (I:Inv X pins σ H s) (r:Vals vs us)
    (h:∀ x dx,H x=none -> H dx=none -> dx ≠ x -> sp (.ref x :: (vs ++ dvs)) (upd (upd H dx (.own x)) x (.ins C dx [])) (fun v H2=>v=.non /\ Q (.ref x) H2) E) :
    wpAny (model X.prog X.w) X.A (call (.ref C) us) (EP X pins σ Q) X.xe s:=by
  have hq:=h (s.heap.objs.size + 1) s.heap.objs.size (I.hok.fresh (Nat.le_succ _)) (I.hok.fresh (Nat.le_refl _)) (Nat.ne_of_lt (Nat.lt_succ_self _))
  have I2:=Inv.made (C:=C) I
  have r2:Vals (V.ref (s.heap.objs.size + 1) :: (vs ++ dvs)) (Value.ref (s.heap.objs.size + 1) :: (us ++ ds)):=.cons rfl (r.append hd)
  have hl:(Value.ref (s.heap.objs.size + 1) :: us ++ ds).length=ps.length:=by
    have e:=r2.length
    rw [F.len _ _ _ _ hq] at e
    exact e.symm
  refine wpAny_call (Zcl (f:=f) I.kIn M.makes M.init (beq_iff_eq.mp M.fn) (codeAny_mono (F.run _ X.stack _ _ ⟨Value.ref (s.heap.objs.size + 1) :: us,[]⟩ (Value.ref (s.heap.objs.size + 1) :: (us ++ ds)) _ _ E (hr.make C us [])
    (I2.env0.make C us []) (hb _ (Value.ref (s.heap.objs.size + 1) :: us) I2.kIn hl) r2 hq) fun r s' hq'=>?_))
  cases r with
  | error e=>exact hx pins σ _ _ e s' I2 hq'
  | ok fl =>
    cases fl with
    | ret u =>
      obtain ⟨v,H',I3,rv,ev,q3⟩:=I2.after hq'
      subst ev
      exact ⟨rv,⟨V.ref (s.heap.objs.size + 1),H',I3,rfl,q3⟩⟩
    | next=>exact False.elim hq'
    | brk=>exact False.elim hq'
    | cont=>exact False.elim hq'
theorem pe_make (M:Mk X.K C f) (F:FnOk X.prog X.w X.K X.mg X.base CX k f fd ps sp) (hr:Room (k + 1) X.A) (hg:Gl X x) (hm:X.mg x=some (.ref C)) (hb:Binds X.K fd ps ds) (hd:Vals dvs ds) (hx:Z83 CX X E)
    (ha:PA X (e :: es) t) (hdb:(x == ("__debug__" : Str))=false:=by decide) (he:starEach (e :: es) X.env=(false,eval e X.env) :: starEach es X.env:=by rfl) (hpl:(backTo pos (starEach es X.env)).any (·.1)=false:=by rfl) :
    PE X (.Call (.Name x p) (e :: es) [] pos) (ZfC C sp dvs E t):=by
  intro pins s σ H Q I h
  refine wpAny_Call_Name_kw (Z8k I hg hm ?_ hdb)
  refine PySem.W.callWith_K (h₀:=X.base) I.ok.mod.kin M.kp (thn (ha pos pins s σ H _ I h) fun us s1 ⟨vs,H1,I1,r,q⟩=>⟨I1.kIn,?_⟩) he hpl
  exact ZbT M F hr hb hd hx I1 r q
end
section
variable {X:Cx} {CX:CXT} {k:Nat} {f C:Addr} {fd:FuncData} {ps ks:List Str} {sp:Sp} {E:XK} {x m:Str} {p pos apos kpos:Pos} {e o:Expr} {es:List Expr} {kws:List Keyword} {te ta:TE} {t tk:TA} {nm:Option Str}
structure Zge (K:Frag) (fd:FuncData) (ps ks:List Str) (g:List Value -> List Value -> List Value) (gV:List V -> List V -> List V):Prop where
  to:∀ (s:Shared) (us ws:List Value),K.In s.heap -> (g us ws).length=ps.length -> BindsTo s fd ⟨us,ks.zip ws⟩ (ps.zip (g us ws))
  rel:∀ {vs:List V} {us:List Value} {zs:List V} {ws:List Value},Vals vs us -> Vals zs ws -> Vals (gV vs zs) (g us ws)
variable {g:List Value -> List Value -> List Value} {gV:List V -> List V -> List V}
end
structure Z0p (N P:List Str) (sc:Scope):Prop where
  kind:sc.kind=.function
  co:sc.isCoroutine=false
  gen:sc.isGenerator=false
  nd:N.Nodup
  pre:N.take P.length=P
  par:∀ x ∈ P,sc.names.lookup x=some .local \/ sc.names.lookup x=some .cell
  nofree:∀ y ∈ sc.names,y.2 ≠ .free
theorem Z7X {kindOf:Str -> Option NameKind} {x:Str}:∀ {binds:List (Str × Value)} {m:Str -> Option Value},(∀ v,(x,v) ∉ binds) -> bindL kindOf binds m x=m x
  | [],_,_=>rfl
  | (n,v) :: r,m,h=>by
    unfold bindL
    rw [Z7X fun w hw=>h w (List.mem_cons_of_mem _ hw)]
    split
    . have:x ≠ n:=by rintro rfl; exact h v List.mem_cons_self
      simp [this]
    . rfl
theorem Z7Z {kindOf:Str -> Option NameKind} {x:Str}:∀ {binds:List (Str × Value)} {m:Str -> Option Value},(∀ v,(x,v) ∉ binds) -> bindC kindOf binds m x=m x
  | [],_,_=>rfl
  | (n,v) :: r,m,h=>by
    unfold bindC
    rw [Z7Z fun w hw=>h w (List.mem_cons_of_mem _ hw)]
    split
    . rfl
    . have:x ≠ n:=by rintro rfl; exact h v List.mem_cons_self
      simp [this]
theorem Z7Y {kindOf:Str -> Option NameKind} {x:Str} {v:Value}:∀ {P:List Str} {vs:List Value} {i:Nat} {m:Str -> Option Value},P.Nodup -> P[i]? = some x -> vs[i]? = some v -> kindOf x=some .local ->
    bindL kindOf (P.zip vs) m x=some v
  | [],_,_,_,_,h,_,_=>by simp at h
  | _ :: _,[],_,_,_,_,h,_=>by simp at h
  | p :: P,w :: vs,0,m,nd,h1,h2,hk=>by
    simp at h1 h2; subst h1; subst h2
    show bindL kindOf ((p,w) :: P.zip vs) m p=_
    unfold bindL
    rw [Z7X fun v hv=>(List.nodup_cons.mp nd).1 (List.of_mem_zip hv).1,if_pos hk]
    simp
  | p :: P,w :: vs,i + 1,m,nd,h1,h2,hk=>by
    show bindL kindOf ((p,w) :: P.zip vs) m x=_
    unfold bindL
    exact Z7Y (i:=i) (List.nodup_cons.mp nd).2 (by simpa using h1) (by simpa using h2) hk
theorem Z80 {kindOf:Str -> Option NameKind} {x:Str} {v:Value}:∀ {P:List Str} {vs:List Value} {i:Nat} {m:Str -> Option Value},P.Nodup -> P[i]? = some x -> vs[i]? = some v -> kindOf x ≠ some .local ->
    bindC kindOf (P.zip vs) m x=some v
  | [],_,_,_,_,h,_,_=>by simp at h
  | _ :: _,[],_,_,_,_,h,_=>by simp at h
  | p :: P,w :: vs,0,m,nd,h1,h2,hk=>by
    simp at h1 h2; subst h1; subst h2
    show bindC kindOf ((p,w) :: P.zip vs) m p=_
    unfold bindC
    rw [Z7Z fun v hv=>(List.nodup_cons.mp nd).1 (List.of_mem_zip hv).1,if_neg hk]
    simp
  | p :: P,w :: vs,i + 1,m,nd,h1,h2,hk=>by
    show bindC kindOf ((p,w) :: P.zip vs) m x=_
    unfold bindC
    exact Z80 (i:=i) (List.nodup_cons.mp nd).2 (by simpa using h1) (by simpa using h2) hk
noncomputable def start (N:List Str) (vs:List V):St:=vs.map some ++ List.replicate (N.length - vs.length) none
noncomputable def cxOf (CX:CXT) (P:Program) (w:World) (K:Frag) (mg:Str -> Option Value) (base:Heap) (N:List Str) (qual:Str) (scope:Scope) (f:Addr) (cd:Value) (A:Around) (outer:List Env) (s:Shared) (H:Hp) (E:XK):Cx where
  prog:=P
  w:=w
  K:=K
  mg:=mg
  base:=base
  A:=A.deeper (envOfC qual scope s.heap.objs.size f cd)
  N:=N
  s₀:=s
  H₀:=H
  env:=envOfC qual scope s.heap.objs.size f cd
  outer:=outer
  stack:=envOfC qual scope s.heap.objs.size f cd :: outer
  ex:=[]
  calm:=true
  fn:=fun _=>true
  pn:=[]
  xe:=fun e s'=>wpAny (model P w) (A.deeper (envOfC qual scope s.heap.objs.size f cd)) (leaving (envOfC qual scope s.heap.objs.size f cd) e) (fun _ s''=>CX outer H s E e s'') (fun e' s''=>CX outer H s E e' s'') s'
theorem Z9b {sc:Scope} {n:Nat} {x:Str} (h:sc.names.lookup x=some .cell):∃ c,(cellsFrom n sc.names []).lookup x=some c:=by
  have q:=PySem.W.cellsFrom_some sc.names n [] (.inl h)
  exact Option.isSome_iff_exists.mp q
theorem Zb3 {CX:CXT} {P:Program} {w:World} {K:Frag} {mg:Str -> Option Value} {base:Heap} {N ps:List Str} {qual:Str} {scope:Scope} {f:Addr} {cd:Value} {A:Around} {outer:List Env} {s s1:Shared} {H:Hp} {E:XK} {us:List Value} {vs:List V}
    (S:Z0p N ps scope) (hd:A.handled=none) (e0:Env0 P w K mg base A outer s H) (hl:vs.length=ps.length) (r:Vals vs us)
    (x:InCallC s s.heap.objs.size (bindL (envOfC qual scope s.heap.objs.size f cd).kindOf (ps.zip us) fun _=>none) (cellsFrom (s.heap.objs.size + 1) scope.names []) (bindC (envOfC qual scope s.heap.objs.size f cd).kindOf (ps.zip us) fun _=>none) s1) :
    Inv (cxOf CX P w K mg base N qual scope f cd A outer s H E) [] (start N vs) H s1:=by
  have hpl:ps.length <= N.length:=by have:=congrArg List.length S.pre; rw [List.length_take] at this; omega
  obtain ⟨h1,tk,rfl,hk⟩:=x.done
  have noA:∀ b:Addr,b ∉ (cxOf CX P w K mg base N qual scope f cd A outer s H E).ex:=fun b z=>absurd (show b ∈ ([]:List Addr) from z) (by simp)
  refine ⟨⟨e0.mod,S.kind,rfl,rfl,Nat.le_refl _,fun y z c h1 h2=>?_,fun y hy=>?_,fun y c _ h=>?_,fun _=>hd,Around.frames_deeper e0.frames,.inr ⟨rfl,rfl⟩,fun b z=>absurd z (noA b),e0.bs,e0.bsz,fun b _ _=>noA b,fun b z=>absurd z (noA b),e0.funs,e0.frf⟩,
    rfl,e0.bare,Un.kept hk,⟨_,x.toInCall.ns,fun i y v h1 h2 h3=>?_⟩,fun y c h=>⟨_,x.cell y c h⟩,e0.hok.fresh (Nat.le_refl _),fun y c h=>?_,fun p hp=>absurd (show p ∈ ([]:List (Addr × Obj)) from hp) (by simp),e0.hok.kept hk,?_⟩
  . exact name_of_addr x.apart (PySem.mem_of_lookup h1) (PySem.mem_of_lookup h2)
  . have hy:scope.names.lookup y=some .cell \/ scope.names.lookup y=some .free:=hy
    rcases hy with hy | hy
    . exact Z9b hy
    . exact absurd rfl (S.nofree _ (PySem.mem_of_lookup hy))
  . exact Nat.le_of_lt (x.above y c (PySem.mem_of_lookup h))
  . have hi:i < vs.length:=by
      unfold start at h2
      by_cases hi:i < vs.length
      . exact hi
      . rw [List.getElem?_append_right (by simpa using hi)] at h2
        rw [List.getElem?_replicate] at h2
        split at h2 <;> cases h2
    have ha:vs[i]? = some v:=by
      unfold start at h2
      rw [List.getElem?_append_left (by simpa using hi),List.getElem?_map] at h2
      cases e:vs[i]? with
      | none=>rw [e] at h2; cases h2
      | some a=>rw [e] at h2; cases h2; rfl
    obtain ⟨u,hu,rv⟩:=r.get ha
    have hp:ps[i]? = some y:=by
      rw [<- S.pre,List.getElem?_take_of_lt (by omega)]; exact h1
    have ndP:ps.Nodup:=by rw [<- S.pre]; exact S.nd.sublist (List.take_sublist _ _)
    refine ⟨u,rv,?_⟩
    rcases S.par y (List.mem_of_getElem? hp) with k | k
    . exact .inl ⟨k,Z7Y ndP hp hu k⟩
    . obtain ⟨c,e⟩:=Z9b (n:=s.heap.objs.size + 1) k
      refine .inr ⟨.inl k,c,e,?_⟩
      have q:=x.cell y c e
      rw [Z80 ndP hp hu (by show scope.names.lookup y ≠ _; rw [k]; decide)] at q
      exact q
  . exact e0.hok.fresh (Nat.le_of_lt (x.above y c (PySem.mem_of_lookup h)))
  . unfold start
    show _=N.length
    rw [List.length_append,List.length_map,List.length_replicate]
    omega
theorem Zef {CX:CXT} {P:Program} {w:World} {K:Frag} {mg:Str -> Option Value} {base:Heap} {k:Nat} {f:Addr} {name qual:Str} {params:Arguments} {body:List Stmt} {scope:Scope} {dV kV doc pm cdv ct oc:Value} {an od:Option Addr}
    {osl:Array (Option Value)} {N ps:List Str} {sp:Sp} (lk:K.lookup f=some ⟨oc,od,.func (fnOf name qual params body scope dV kV doc pm an cdv ct),osl⟩) (hcd:codeIn K cdv qual=true) (S:Z0p N ps scope)
    (len:∀ vs H Q E,sp vs H Q E -> vs.length=ps.length)
    (hbody:∀ (A:Around) (outer:List Env) (s:Shared) (H:Hp) (vs:List V) (Q:VK) (E:XK),Room k (A.deeper (envOfC qual scope s.heap.objs.size f cdv)) -> sp vs H Q E ->
      ∃ t,PSs (cxOf CX P w K mg base N qual scope f cdv A outer s H E) body t /\ t { nx:=fun _ H'=>Q .non H',rt:=Q } (start N vs) H) :
    FnOk P w K mg base CX (k + 1) f (fnOf name qual params body scope dV kV doc pm an cdv ct) ps sp:=by
  refine ⟨len,fun A outer s H args us vs Q E hr e0 hb r hsp=>?_⟩
  have hl:=len _ _ _ _ hsp
  have KX:K.In s.heap:=e0.mod.kin.keeps fun b o e=>(e0.bs b o e).1
  have lim:s.heap.NoLimit:=e0.mod.nolimit.keeps fun b o e=>(e0.bs b o e).1
  have hkind:∀ y ∈ ps.zip us,scope.names.lookup y.1=some .local \/ (scope.names.lookup y.1=some .cell /\ ((cellsFrom (s.heap.objs.size + 1) scope.names []).lookup y.1).isSome=true):=fun ⟨n,v⟩ hy=>by
    rcases S.par n (List.of_mem_zip hy).1 with q | q
    . exact .inl q
    . exact .inr ⟨q,PySem.W.cellsFrom_some _ _ _ (.inl q)⟩
  refine codeAny_call_function hr.depth (KX _ _ lk) rfl S.co S.gen rfl (PySem.W.codeRec_of KX hcd) (hb _ _ _ _ ?_)
  refine wpAny_newFunctionEnv_cells S.kind hkind fun env he s1 x=>?_
  subst he
  refine ⟨lim.keeps x.toInCall.keep,codeAny_func ?_⟩
  obtain ⟨t,ht,hq⟩:=hbody A outer s H vs Q E (hr.deeper _) hsp
  have I:Inv (cxOf CX P w K mg base N qual scope f cdv A outer s H E) [] (start N vs) H s1:=Zb3 S hr.hd e0 hl r x
  refine wpAny_mono (ht [] s1 (start N vs) H _ I hq) (fun fl s' hs=>?_) fun e s' hs=>hs
  have fin:∀ {σ':St} {H':Hp} {v:V} {u:Value},Inv (cxOf CX P w K mg base N qual scope f cdv A outer s H E) [] σ' H' s' -> RelV v u -> Q v H' -> CE outer P w H s Q u s' :=
    fun {σ' H' v u} J rv q=>⟨v,H',J.os,J.bare,J.base,J.hok,rv,q⟩
  cases fl with
  | ret u =>
    obtain ⟨v,σ',H',J,rv,q⟩:=hs
    exact fin J rv q
  | next =>
    obtain ⟨σ',H',J,q⟩:=hs
    exact fin (v:=V.non) (u:=Value.none) J rfl q
  | brk =>
    obtain ⟨_,_,_,q⟩:=hs
    exact False.elim q
  | cont =>
    obtain ⟨_,_,_,q⟩:=hs
    exact False.elim q
section
variable {X:Cx} {x:Str} {p pos:Pos} {e:Expr} {es:List Expr} {t:TA} {id T:String} {r:List V -> Hp -> VK -> Prop}
noncomputable def tCB (r:List V -> Hp -> VK -> Prop) (t:TA):TE:=fun σ H Q=>t σ H fun vs H1=>r vs H1 Q
theorem pe_callB (hc:CallR X (.builtin id) r) (hg:Gl X x) (hm:X.mg x=none) (hv:bootBuiltins x=some (.builtin id)) (ha:PA X (e :: es) t) (hn:x ≠ "__name__":=by decide) (hdb:(x == ("__debug__" : Str))=false:=by decide)
    (he:starEach (e :: es) X.env=(false,eval e X.env) :: starEach es X.env:=by rfl) (hpl:(backTo pos (starEach es X.env)).any (·.1)=false:=by rfl):PE X (.Call (.Name x p) (e :: es) [] pos) (tCB r t):=by
  intro pins s σ H Q I h
  refine wpAny_Call_Name_kw (Z6k I hg hm hv ?_ hn hdb)
  exact PyProof.Rows.callWith_builtin1 (thn (ha pos pins s σ H _ I h) fun us s1 ⟨vs,H1,I1,r1,q1⟩=>hc pins s1 σ H1 vs us Q I1 r1 q1) he hpl
theorem pe_callTy (hc:CallR X (.type T) r) (hg:Gl X x) (hm:X.mg x=none) (hv:bootBuiltins x=some (.type T)) (ha:PA X (e :: es) t) (hn:x ≠ "__name__":=by decide) (hdb:(x == ("__debug__" : Str))=false:=by decide)
    (he:starEach (e :: es) X.env=(false,eval e X.env) :: starEach es X.env:=by rfl) (hpl:(backTo pos (starEach es X.env)).any (·.1)=false:=by rfl):PE X (.Call (.Name x p) (e :: es) [] pos) (tCB r t):=by
  intro pins s σ H Q I h
  refine wpAny_Call_Name_kw (Z6k I hg hm hv ?_ hn hdb)
  exact PyProof.Rows.callWith_type1 (thn (ha pos pins s σ H _ I h) fun us s1 ⟨vs,H1,I1,r1,q1⟩=>hc pins s1 σ H1 vs us Q I1 r1 q1) he hpl
end
end L2
namespace HT
open PySem PyProof.Rows
section
open PySem.SeqAt
open PySem.AutoSeq1 (wpAny_loadPart')
open PySem.MeetsSeq PySem.MeetsSeq2 PySem.MeetsSeq3
end
section
variable {prog:Program} {w:World} {A:Around} {E:Value -> Shared -> Prop} {s:Shared}
noncomputable def sIx (n d:Nat):Option Int -> Nat
  | none=>d
  | some v=>if v < 0 then (v + (n:Int)).toNat else min v.toNat n
theorem sIx_none (n d:Nat):sIx n d none=d:=rfl
theorem sIx_nat (n d k:Nat):sIx n d (some (k:Int))=min k n:=by
  show (if (k:Int) < 0 then ((k:Int) + (n:Int)).toNat else min (k:Int).toNat n)=min k n
  rw [if_neg (by omega),Int.toNat_natCast]
theorem ZeE (n d:Nat) (hd:d <= n) (o:Option Int):sIx n d o <= n:=by
  cases o with
  | none=>exact hd
  | some v =>
    show (if v < 0 then (v + (n:Int)).toNat else min v.toNat n) <= n
    by_cases hv:v < 0
    . rw [if_pos hv]; omega
    . rw [if_neg hv]; exact Nat.min_le_right _ _
theorem Zbu (v:Int) (n d:Nat):(if v < 0 then max (v + (n:Int)) 0 else min v (n:Int))=((sIx n d (some v):Nat):Int):=by
  show (if v < 0 then max (v + (n:Int)) 0 else min v (n:Int))=(((if v < 0 then (v + (n:Int)).toNat else min v.toNat n):Nat):Int)
  by_cases hv:v < 0
  . simp only [if_pos hv]; omega
  . simp only [if_neg hv]; omega
theorem Z9V (lo hi:Option Int) (n:Nat):Builtin.Slice.sliceAdjust lo hi 1 (n:Int)=(((sIx n 0 lo:Nat):Int),((sIx n n hi:Nat):Int)):=by
  have h1:¬ ((1:Int) < 0):=by omega
  unfold Builtin.Slice.sliceAdjust
  simp only [h1,if_false]
  refine Prod.ext ?_ ?_
  . cases lo with
    | none=>rfl
    | some v=>exact Zbu v n 0
  . cases hi with
    | none=>rfl
    | some v=>exact Zbu v n n
theorem Z9u (i j:Nat):Builtin.Slice.slicePlaces (i:Int) (j:Int) 1=j - i:=by
  unfold Builtin.Slice.slicePlaces
  have h1:(1:Int) > 0:=by omega
  simp only [h1,if_true,Int.ediv_one]
  split <;> omega
theorem Z69 {v:Value} {o:Option Int} {Q:Option Int -> Shared -> Prop} (p:IsPart v o) (h:Q o s):wpAny (model prog w) A (Builtin.Slice.slicePartIndex v) Q E s:=by
  cases p with
  | none=>exact slicePart_none h
  | int i t=>exact slicePart_int h
theorem Z56 {sl:Addr} {vl vu:Value} {lo hi:Option Int} {n:Nat} {Q:Int × Int × Nat -> Shared -> Prop} (hs:s.heap.IsSliceOf sl vl vu .none) (pl:IsPart vl lo) (pu:IsPart vu hi)
    (h:Q (((sIx n 0 lo:Nat):Int),1,sIx n n hi - sIx n 0 lo) s):wpAny (model prog w) A (Builtin.Slice.sliceApplied (.ref sl) (pure (n:Int))) Q E s:=by
  obtain ⟨os,hos,hcs,hds⟩:=id hs
  unfold Builtin.Slice.sliceApplied Builtin.Slice.sliceFields
  refine wpAny_bind (wpAny_bind (wpAny_field hos hds (x:=vl) rfl (wpAny_bind (wpAny_field hos hds (x:=vu) rfl (wpAny_bind (wpAny_field hos hds (x:=.none) rfl (wpAny_pure ?_)))))))
  refine wpAny_bind (slicePart_none ?_)
  show wpAny _ _ (if ((1:Int) == 0)=true then _ else _) _ _ s
  rw [if_neg (by decide)]
  refine wpAny_bind (Z69 pl (wpAny_bind (Z69 pu (wpAny_bind (wpAny_pure ?_)))))
  show wpAny _ _ (match Builtin.Slice.sliceAdjust lo hi 1 (n:Int) with | (lo,hi)=>pure (lo,(1:Int),Builtin.Slice.slicePlaces lo hi 1)) _ _ s
  rw [Z9V lo hi n]
  show wpAny _ _ (pure (((sIx n 0 lo:Nat):Int),(1:Int),Builtin.Slice.slicePlaces ((sIx n 0 lo:Nat):Int) ((sIx n n hi:Nat):Int) 1)) _ _ s
  rw [Z9u]
  exact wpAny_pure h
theorem Zca (xs:Array Value) (i k:Nat):((List.range k).filterMap fun (m:Nat)=>xs[((i:Int) + (m:Int) * 1).toNat]?).toArray=((xs.toList.drop i).take k).toArray:=by
  have e:(fun (m:Nat)=>xs[((i:Int) + (m:Int) * 1).toNat]?)=fun m=>xs[i + m]?:=by
    funext m
    have:((i:Int) + (m:Int) * 1).toNat=i + m:=by omega
    rw [this]
  rw [e]
  have:=pick_run xs i k
  rw [List.filterMap_map] at this
  have e2:((fun x=>xs[x]?) ∘ fun x=>i + x)=fun m=>xs[i + m]?:=rfl
  rw [e2] at this
  rw [this]
theorem getItem_tuple_cut {t sl:Addr} {items:Array Value} {vl vu:Value} {lo hi:Option Int} {Q:Value -> Shared -> Prop} (ht:IsTup s.heap t items) (hs:s.heap.IsSliceOf sl vl vu .none) (pl:IsPart vl lo) (pu:IsPart vu hi)
    (hw:¬ (sIx items.size 0 lo=0 /\ sIx items.size items.size hi=items.size))
    (h:Q (.ref s.heap.objs.size) { s with heap:=s.heap.push { cls:=.type "tuple",data:=.seq ((items.toList.drop (sIx items.size 0 lo)).take (sIx items.size items.size hi - sIx items.size 0 lo)).toArray } })
    (hsz:items.size <= sizeLine):wpAny (model prog w) A (getItem (.ref t) (.ref sl)) Q E s:=by
  have htake:sizeOk (.seq ((items.toList.drop (sIx items.size 0 lo)).take (sIx items.size items.size hi - sIx items.size 0 lo)).toArray):=by
    show ((items.toList.drop (sIx items.size 0 lo)).take (sIx items.size items.size hi - sIx items.size 0 lo)).toArray.size <= sizeLine
    rw [List.size_toArray,List.length_take,List.length_drop,Array.length_toList]
    omega
  have hj:sIx items.size items.size hi <= items.size:=ZeE _ _ (Nat.le_refl _) hi
  obtain ⟨os,hos,hcs,hds⟩:=id hs
  have hTs:s.TypeIs (.ref sl) "slice":=⟨os,hos,hcs⟩
  unfold getItem
  try with_reducible refine wpAny_holding ?_
  first | refine wpAny_bind (wpAny_pure ?_) | skip
  refine wpAny_bind (wpAny_sequenceKey ht.typeIs (by decide) ?_)
  refine wpAny_bind (wpAny_callSpecial?_slot (name:=Str.ofString "__getitem__") ht.typeIs PyProof.Rows.slot_tuple_getitem
    (wpAny_call_entry PyProof.Rows.slot_tuple_getitem ht.typeIs entry_tuple_getitem ?_ (args_tuple_getitem _ _)))
  show wpAny _ _ (Builtin.Tuple.tupleItemsOf (.ref t) >>= _) _ _ s
  refine wpAny_bind (tupleItemsOf_ ht ?_)
  refine wpAny_bind (wpAny_typeOf hTs ?_)
  rw [if_pos (by decide)]
  refine wpAny_bind (Z56 hs pl pu ?_)
  have hno:¬ ((((sIx items.size 0 lo:Nat):Int) == 0 && (1:Int) == 1 && (sIx items.size items.size hi - sIx items.size 0 lo) == items.size)=true):=by
    intro q
    rw [Bool.and_eq_true,Bool.and_eq_true] at q
    have q1:((sIx items.size 0 lo:Nat):Int)=0:=eq_of_beq q.1.1
    have q2:sIx items.size items.size hi - sIx items.size 0 lo=items.size:=eq_of_beq q.2
    exact hw ⟨by omega,by omega⟩
  show wpAny _ _ (if (((sIx items.size 0 lo:Nat):Int) == 0 && (1:Int) == 1 && (sIx items.size items.size hi - sIx items.size 0 lo) == items.size)=true then _ else _) _ _ s
  rw [if_neg hno,Zca]
  first
    | exact wpAny_bind (m:=Builtin.Tuple.tupleExact _) (wpAny_newObj_type (wpAny_pure ⟨_,rfl,wpAny_pure h⟩) htake)
    | exact wpAny_bind (m:=Builtin.Tuple.tupleExact _) (wpAny_newObj_type (wpAny_bind (wpAny_pure (wpAny_pure ⟨_,rfl,wpAny_pure h⟩))) htake)
    | exact wpAny_bind (wpAny_bind (m:=Builtin.Tuple.tupleExact _) (wpAny_newObj_type (wpAny_pure (wpAny_pure ⟨_,rfl,wpAny_pure h⟩)) htake))
    | exact wpAny_bind (wpAny_bind (m:=Builtin.Tuple.tupleExact _) (wpAny_newObj_type (wpAny_pure ⟨_,rfl,wpAny_pure h⟩) htake))
end
end HT
namespace L2
open PySem PySem.Spec PyProof.Rows
noncomputable abbrev TO:=St -> Hp -> (Option Int -> Hp -> Prop) -> Prop
noncomputable def PO (X:Cx) (e:Option Expr) (t:TO):Prop :=
  ∀ (pins:List (Addr × Obj)) (s:Shared) (σ:St) (H:Hp) (Q:Option Int -> Hp -> Prop),Inv X pins σ H s -> t σ H Q ->
    wpAny (model X.prog X.w) X.A (evalPart e X.env) (fun u s'=>∃ o H',Inv X pins σ H' s' /\ IsPart u o /\ Q o H') X.xe s
noncomputable def Zdi:TO:=fun _ H Q=>Q none H
noncomputable def ZfA (t:TE):TO:=fun σ H Q=>t σ H fun x H1=>∃ i,x=.int i /\ Q (some i) H1
theorem Z6l {ns:List Int}:∀ {us:List Value},Vals (ns.map V.int) us -> IntsAre us ns:=by
  induction ns with
  | nil=>intro us r; rw [List.map_nil] at r; cases r; exact .nil
  | cons n ns ih =>
    intro us r
    rw [List.map_cons] at r
    cases r with
    | cons r1 r2 =>
      obtain ⟨t,e⟩:=r1
      subst e
      exact .cons n t (ih r2)
section
variable {X:Cx} {e:Expr} {te:TE} {lo hi:Option Expr} {tl th:TO} {pos p2:Pos}
theorem ZdM:PO X none Zdi:=by
  intro pins s σ H Q I h
  rw [evalPart_none]
  exact wpAny_pure ⟨none,H,I,.none,h⟩
theorem ZdL (h:PE X e te):PO X (some e) (ZfA te):=by
  intro pins s σ H Q I hw
  rw [evalPart_some]
  refine thn (h pins s σ H _ I hw) fun u s1 ⟨x,H1,I1,r1,q1⟩=>?_
  obtain ⟨i,rfl,q⟩:=q1
  obtain ⟨t,rfl⟩:=r1
  exact ⟨some i,H1,I1,.int i t,q⟩
noncomputable def SlR (X:Cx) (r:V -> Option Int -> Option Int -> Hp -> VK -> Prop):Prop :=
  ∀ (pins:List (Addr × Obj)) (s:Shared) (σ:St) (H:Hp) (x:V) (v vl vu:Value) (lo hi:Option Int) (sl:Addr) (Q:VK),Inv X pins σ H s -> RelV x v -> s.heap.IsSliceOf sl vl vu .none -> IsPart vl lo -> IsPart vu hi -> r x lo hi H Q ->
    ∃ T id,typeLookup (.type T) "__getitem__" = pure (some (.builtin id)) /\ s.TypeIs v T /\ wpAny (model X.prog X.w) X.A (getItem v (.ref sl)) (EP X pins σ Q) X.xe s
theorem SlR.or {r r':V -> Option Int -> Option Int -> Hp -> VK -> Prop} (h:SlR X r) (h':SlR X r'):SlR X (fun x lo hi H Q=>r x lo hi H Q \/ r' x lo hi H Q):=by
  intro pins s σ H x v vl vu lo hi sl Q I rx hs pl pu q
  rcases q with q | q
  . exact h pins s σ H x v vl vu lo hi sl Q I rx hs pl pu q
  . exact h' pins s σ H x v vl vu lo hi sl Q I rx hs pl pu q
noncomputable def tSl (r:V -> Option Int -> Option Int -> Hp -> VK -> Prop) (te:TE) (tl th:TO):TE:=fun σ H Q=>te σ H fun x H1=>tl σ H1 fun l H2=>th σ H2 fun u H3=>r x l u H3 Q
theorem pe_slice {r:V -> Option Int -> Option Int -> Hp -> VK -> Prop} (hr:SlR X r) (he:PE X e te) (hl:PO X lo tl) (hu:PO X hi th):PE X (.Subscript e (.Slice lo hi none p2) pos) (tSl r te tl th):=by
  intro pins s σ H Q I h
  refine Subscript_ (thn (he pins s σ H _ I h) fun v s1 ⟨x,H1,I1,r1,q1⟩=>?_)
  refine wpAny_Slice (thn (hl pins s1 σ H1 _ I1 q1) fun vl s2 ⟨l,H2,I2,pl,q2⟩=>thn (hu pins s2 σ H2 _ I2 q2) fun vu s3 ⟨u,H3,I3,pu,q3⟩=>?_)
  rw [evalPart_none]
  refine wpAny_pure ?_
  have I4:Inv X pins σ H3 { s3 with heap:=s3.heap.push { cls:=.type "slice",data:=.fields #[vl,vu,.none] } }:=I3.kept (t':=s3.toks) fun b ob q=>Heap.get?_push_of_some _ q
  obtain ⟨T,id,hT,ht,hg⟩:=hr pins { s3 with heap:=s3.heap.push { cls:=.type "slice",data:=.fields #[vl,vu,.none] } } σ H3 x v vl vu l u s3.heap.objs.size Q I4 r1 (Heap.IsSliceOf.new ..) pl pu q3
  show wpAny (model X.prog X.w) X.A (subscriptTail e (.Slice lo hi none p2) v (.ref s3.heap.objs.size)) (EP X pins σ Q) X.xe { s3 with heap:=s3.heap.push { cls:=.type "slice",data:=.fields #[vl,vu,.none] } }
  exact tail_any (ops:=[.ref s3.heap.objs.size,v]) ht hT hg (by with_unfolding_all rfl)
noncomputable def cutV (xs:List V) (lo hi:Option Int):List V:=(xs.drop (HT.sIx xs.length 0 lo)).take (HT.sIx xs.length xs.length hi - HT.sIx xs.length 0 lo)
theorem Z5T (xs:List V) (lo hi:Option Int):(cutV xs lo hi).length <= xs.length:=by
  unfold cutV
  rw [List.length_take,List.length_drop]
  omega
noncomputable def rSlT (K:Frag):V -> Option Int -> Option Int -> Hp -> VK -> Prop:=fun x lo hi H Q=>∃ a xs,x=.ref a /\ SqT K H a xs /\
  ¬ (HT.sIx xs.length 0 lo=0 /\ HT.sIx xs.length xs.length hi=xs.length) /\ ∀ p,H p=none -> Q (.ref p) (upd H p (.tup (cutV xs lo hi)))
theorem ZeD:SlR X (rSlT X.K):=by
  intro pins s σ H x v vl vu lo hi sl Q I rx hs pl pu h
  obtain ⟨a,xs,rfl,hx,hw,q⟩:=h
  cases rx
  obtain ⟨its,r,ht,hz⟩:=I.tuple hx
  have hlen:its.toArray.size=xs.length:=by rw [List.size_toArray]; exact r.length.symm
  refine ⟨"tuple",_,PyProof.Rows.slot_tuple_getitem.lookup,ht.typeIs,?_⟩
  refine HT.getItem_tuple_cut ht hs pl pu (by rw [hlen]; exact hw) ?_ (by rw [hlen]; exact hz)
  rw [hlen]
  refine ⟨.ref s.heap.objs.size,_,I.laid (t':=s.toks) (o:=.tup (cutV xs lo hi)) (fun b ob q=>Heap.get?_push_of_some _ q) (Nat.le_refl _) ?_,rfl,q _ (I.hok.fresh (Nat.le_refl _))⟩
  exact ⟨Nat.le_trans (Z5T xs lo hi) hz,_,(r.drop (HT.sIx xs.length 0 lo)).take (HT.sIx xs.length xs.length hi - HT.sIx xs.length 0 lo),IsTup.new _ _⟩
end
noncomputable def ixN (n:Nat) (i:Int):Option Nat:=if 0 <= i then (if i < n then some i.toNat else none) else if -(n:Int) <= i then some (i + n).toNat else none
noncomputable def atI {α:Type} (xs:List α) (i:Int):Option α:=(ixN xs.length i).bind fun j=>xs[j]?
theorem Zb1 {n:Nat} {i:Int} {j:Nat} (h:ixN n i=some j):seqIndex? i n=some j /\ j < n /\ -(n:Int) <= i /\ i < n:=by
  unfold ixN at h
  by_cases h0:0 <= i
  . rw [if_pos h0] at h
    by_cases h1:i < n
    . rw [if_pos h1] at h
      have e:i.toNat=j:=Option.some.inj h
      exact ⟨by rw [seqIndex_of h0 h1,e],by omega,by omega,h1⟩
    . rw [if_neg h1] at h; cases h
  . rw [if_neg h0] at h
    by_cases h1:-(n:Int) <= i
    . rw [if_pos h1] at h
      have e:(i + n).toNat=j:=Option.some.inj h
      exact ⟨by rw [seqIndex_neg (by omega) h1,e],by omega,h1,by omega⟩
    . rw [if_neg h1] at h; cases h
theorem Z8y {α:Type} {xs:List α} {i:Int} {v:α} (h:atI xs i=some v):∃ j,seqIndex? i xs.length=some j /\ xs[j]? = some v /\ j < xs.length /\ -(xs.length:Int) <= i /\ i < xs.length:=by
  unfold atI at h
  cases e:ixN xs.length i with
  | none=>rw [e] at h; cases h
  | some j =>
    rw [e] at h
    obtain ⟨h1,h2,h3,h4⟩:=Zb1 e
    exact ⟨j,h1,h,h2,h3,h4⟩
theorem Z4g {α:Type} {xs:List α} {j:Nat} {v:α} (h:xs[j]? = some v):atI xs (j:Int)=some v:=by
  have hj:j < xs.length:=(List.getElem?_eq_some_iff.mp h).1
  have e:ixN xs.length (j:Int)=some j:=by
    unfold ixN
    rw [if_pos (by omega),if_pos (by omega)]; simp
  unfold atI; rw [e]; exact h
noncomputable def ZbI (b:Expr):Prop:=∀ o i,subscripted b false o i=operate [o,i] (getItem o i)
noncomputable def IxR (X:Cx) (r:R2):Prop :=
  ∀ (value slice:Expr) (pins:List (Addr × Obj)) (s:Shared) (σ:St) (H:Hp) (x y:V) (v u:Value) (Q:VK),Inv X pins σ H s -> RelV x v -> RelV y u -> r x y H Q ->
    subscripted slice false v u=operate [v,u] (getItem v u) -> wpAny (model X.prog X.w) X.A (subscriptTail value slice v u) (EP X pins σ Q) X.xe s
noncomputable def MtR (X:Cx) (id:String) (r:V -> List V -> Hp -> VK -> Prop):Prop :=
  ∀ (pins:List (Addr × Obj)) (s:Shared) (σ:St) (H:Hp) (x:V) (xs:List V) (v:Value) (us:List Value) (Q:VK),Inv X pins σ H s -> RelV x v -> Vals xs us -> r x xs H Q ->
    wpAny (model X.prog X.w) X.A (call (.builtin id) (v :: us)) (EP X pins σ Q) X.xe s
section
variable {X:Cx} {a b:Expr} {ta tb:TE} {pos:Pos}
theorem IxR.or {r r':R2} (h:IxR X r) (h':IxR X r'):IxR X (fun x y H Q=>r x y H Q \/ r' x y H Q):=by
  intro value slice pins s σ H x y v u Q I rx ry q hs
  rcases q with q | q
  . exact h value slice pins s σ H x y v u Q I rx ry q hs
  . exact h' value slice pins s σ H x y v u Q I rx ry q hs
theorem MtR.or {id:String} {r r':V -> List V -> Hp -> VK -> Prop} (h:MtR X id r) (h':MtR X id r'):MtR X id (fun x xs H Q=>r x xs H Q \/ r' x xs H Q):=by
  intro pins s σ H x xs v us Q I rx rs q
  rcases q with q | q
  . exact h pins s σ H x xs v us Q I rx rs q
  . exact h' pins s σ H x xs v us Q I rx rs q
theorem ZfS {r:R2} (hr:IxR X r) (ha:PE X a ta) (hb:PE X b tb) (hs:ZbI b):PE X (.Subscript a b pos) (tOp r ta tb):=by
  intro pins s σ H Q I h
  exact Subscript_ (binT ha hb I h fun v u s2 x y H2 I2 rx ry q=>hr a b pins s2 σ H2 x y v u Q I2 rx ry q (hs _ _))
noncomputable def rIxL (K:Frag):R2:=fun x y H Q=>∃ p xs i v,x=.ref p /\ y=.int i /\ SqL K H p xs /\ atI xs i=some v /\ Q v H
noncomputable def rIxT (K:Frag):R2:=fun x y H Q=>∃ p xs i v,x=.ref p /\ y=.int i /\ SqT K H p xs /\ atI xs i=some v /\ Q v H
noncomputable def rIxS:R2:=fun x y H Q=>∃ z i c,x=.str z /\ y=.int i /\ z.length <= sizeLine /\ atI z.cps.toList i=some c /\ Q (.str ⟨#[c]⟩) H
theorem ix_list:IxR X (rIxL X.K):=by
  intro value slice pins s σ H x y v u Q I rx ry h hs
  obtain ⟨p,xs,i,z,rfl,rfl,hq,he,q⟩:=h
  cases rx
  obtain ⟨t,rfl⟩:=ry
  obtain ⟨its,r,pl,hz⟩:=I.list hq
  obtain ⟨j,h1,h2,h3,h4,h5⟩:=Z8y he
  obtain ⟨w,ew,rw'⟩:=r.get h2
  have hl:=r.length
  have hn:=Z6j
  have fin:EP X pins σ Q w s:=⟨z,H,I,rw',q⟩
  by_cases h0:0 <= i
  . have hj:i.toNat=j:=by
      rw [seqIndex_of h0 h5] at h1
      exact Option.some.inj h1
    exact item_listR pl.isList h0 (by omega) (by rw [hj]; simpa using ew) fin hs
  . have hj:(i + (its.toArray.size:Int)).toNat=j:=by
      rw [seqIndex_neg (by omega) h4] at h1
      rw [List.size_toArray,<- hl]
      exact Option.some.inj h1
    exact subscriptTail_builtinR (x:=w) pl.isList.typeIs slot_list_getitem.lookup
      (wpAny_getItem_list_neg (Q:=fun r s'=>r=w /\ EP X pins σ Q r s') pl.isList (by omega) (by rw [List.size_toArray] <;> omega) (by omega) (by rw [hj]; simpa using ew) ⟨rfl,fin⟩) hs
theorem ix_tup:IxR X (rIxT X.K):=by
  intro value slice pins s σ H x y v u Q I rx ry h hs
  obtain ⟨p,xs,i,z,rfl,rfl,hq,he,q⟩:=h
  cases rx
  obtain ⟨t,rfl⟩:=ry
  obtain ⟨its,r,pl,hz⟩:=I.tuple hq
  obtain ⟨j,h1,h2,h3,h4,h5⟩:=Z8y he
  obtain ⟨w,ew,rw'⟩:=r.get h2
  have hl:=r.length
  have hn:=Z6j
  have fin:EP X pins σ Q w s:=⟨z,H,I,rw',q⟩
  exact subscriptTail_builtinR (x:=w) pl.typeIs slot_tuple_getitem.lookup
    (getItem_tuple (j:=j) (Q:=fun r s'=>r=w /\ EP X pins σ Q r s') pl (by omega) (by omega) (by rw [List.size_toArray,<- hl]; exact h1) (by simpa using ew) ⟨rfl,fin⟩) hs
theorem Zfg:IxR X rIxS:=by
  intro value slice pins s σ H x y v u Q I rx ry h hs
  obtain ⟨z,i,c,rfl,rfl,hz,he,q⟩:=h
  obtain ⟨t,rfl⟩:=rx
  obtain ⟨t',rfl⟩:=ry
  obtain ⟨j,h1,h2,h3,h4,h5⟩:=Z8y he
  have hl:z.cps.toList.length=z.length:=by simp [Str.length]
  rw [hl] at h1 h4 h5
  have hn:=Z6j
  exact tail_any (typeIs_str s z t) slot_str_getitem.lookup (getItem_str (c:=c) (by
    have e1:decide (i < -(2 ^ 63:Int))=false:=decide_eq_false (by omega)
    have e2:decide (i ≥ 2 ^ 63)=false:=decide_eq_false (by omega)
    rw [e1,e2,Bool.or_false]) (by rw [h1]; simpa using h2) ⟨.str ⟨#[c]⟩,H,I.tok _,⟨_,rfl⟩,q⟩) hs
noncomputable def rIx (K:Frag):R2:=fun x y H Q=>rIxL K x y H Q \/ rIxT K x y H Q \/ rIxS x y H Q
theorem Zfh:IxR X (rIx X.K):=ix_list.or (ix_tup.or Zfg)
theorem Z9D (its:List Value) (n j:Nat) (u:Value):Obj.mapSeq (·.setIfInBounds j u) { cls:=.type "list",data:=.seq its.toArray n }={ cls:=.type "list",data:=.seq (its.set j u).toArray n }:=by
  simp [Obj.mapSeq]
theorem Inv.lst {pins:List (Addr × Obj)} {σ:St} {H:Hp} {s:Shared} {p:Addr} {xs:List V} (I:Inv X pins σ H s) (h:H p=some (.lst xs)) :
    ∃ (its:List Value) (n:Nat),Vals xs its /\ s.heap.get? p=some { cls:=.type "list",data:=.seq its.toArray n } /\ xs.length <= sizeLine:=by
  obtain ⟨z,its,n,r,e⟩:=I.hok p _ h
  exact ⟨its,n,r,e,z⟩
theorem Inv.lstUpd {pins:List (Addr × Obj)} {σ:St} {H:Hp} {s:Shared} {p:Addr} {xs ys:List V} {its its':List Value} {n n':Nat} {f:Obj -> Obj} (I:Inv X pins σ H s) (h:H p=some (.lst xs))
    (ho:s.heap.get? p=some { cls:=.type "list",data:=.seq its.toArray n }) (hf:f { cls:=.type "list",data:=.seq its.toArray n }={ cls:=.type "list",data:=.seq its'.toArray n' }) (r:Vals ys its') (hz:ys.length <= sizeLine) (t:Nat) :
    Inv X pins σ (upd H p (.lst ys)) { s with heap:=s.heap.update p f,toks:=t }:=by
  have e:(s.heap.update p f).get? p=some { cls:=.type "list",data:=.seq its'.toArray n' }:=by
    rw [Heap.get?_update_self f ho (by rw [hf] <;> rfl),hf]
  refine I.write (x:=p) (e:=p) (by rw [h]; trivial) (.inl rfl) (fun b u hb q=>(Heap.get?_update_other _ _ (Ne.symm hb)).trans q) ⟨_,e⟩ ?_
  exact ⟨hz,its',n',r,e⟩
noncomputable def ZeJ:V -> V -> V -> Hp -> (Hp -> Prop) -> Prop:=fun o i v H Q=>∃ p xs k j,o=.ref p /\ i=.int k /\ H p=some (.lst xs) /\ ixN xs.length k=some j /\ Q (upd H p (.lst (xs.set j v)))
theorem ZbS:PSet X ZeJ:=by
  intro pins s σ H o i v ov iv u Q I ro ri rv h
  obtain ⟨p,xs,k,j,rfl,rfl,hp,hj,q⟩:=h
  cases ro
  obtain ⟨t,rfl⟩:=ri
  obtain ⟨its,n,r,ho,hz⟩:=I.lst hp
  obtain ⟨h1,h2,h3,h4⟩:=Zb1 hj
  have hl:=r.length
  have hn:=Z6j
  have I':Inv X pins σ (upd H p (.lst (xs.set j v))) { s with heap:=s.heap.update p (Obj.mapSeq (·.setIfInBounds j u)) } :=
    I.lstUpd hp ho (Z9D its n j u) (r.set rv j) (by rw [List.length_set]; exact hz) s.toks
  by_cases h0:0 <= k
  . have hk:k.toNat=j:=by
      rw [seqIndex_of h0 h4] at h1
      exact Option.some.inj h1
    exact PySem.W.ki_setAt ho h0 (by omega) (by rw [List.size_toArray,<- hl]; exact h4) (by rw [hk]; exact ⟨_,I',q⟩)
  . have hk:(k + (its.toArray.size:Int)).toNat=j:=by
      rw [seqIndex_neg (by omega) h3] at h1
      rw [List.size_toArray,<- hl]
      exact Option.some.inj h1
    exact PySem.W.ki_setBack ho (by omega) (by rw [List.size_toArray,<- hl]; exact h3) (by omega) (by rw [hk]; exact ⟨_,I',q⟩)
theorem Z7h (lo hi:Option Int) (n:Nat):(sliceBounds lo hi none n).1=((HT.sIx n 0 lo:Nat):Int) /\ (sliceBounds lo hi none n).2.1=((HT.sIx n n hi:Nat):Int) /\ (sliceBounds lo hi none n).2.2=1:=by
  refine ⟨?_,?_,rfl⟩
  . cases lo with
    | none=>simp [sliceBounds,HT.sIx]
    | some i =>
      simp only [sliceBounds,HT.sIx,Option.getD_none,show (1:Int) > 0 by decide,if_true]
      by_cases h:i < 0
      . simp only [h,if_true] <;> omega
      . simp only [h,if_false] <;> omega
  . cases hi with
    | none=>simp [sliceBounds,HT.sIx]
    | some i =>
      simp only [sliceBounds,HT.sIx,Option.getD_none,show (1:Int) > 0 by decide,if_true]
      by_cases h:i < 0
      . simp only [h,if_true] <;> omega
      . simp only [h,if_false] <;> omega
theorem Z6A (its:List Value) (lo hi:Option Int):slicePick its.toArray lo hi none=((its.drop (HT.sIx its.length 0 lo)).take (HT.sIx its.length its.length hi - HT.sIx its.length 0 lo)).toArray:=by
  obtain ⟨h1,h2,h3⟩:=Z7h lo hi its.toArray.size
  unfold slicePick
  rw [h1,h2,h3]
  simp only [sliceRange_one,pick_run,List.size_toArray] <;> rfl
noncomputable def rSlL (K:Frag):V -> Option Int -> Option Int -> Hp -> VK -> Prop:=fun x lo hi H Q=>∃ a xs,x=.ref a /\ SqL K H a xs /\ ∀ p,H p=none -> Q (.ref p) (upd H p (.lst (cutV xs lo hi)))
theorem Zdo:SlR X (rSlL X.K):=by
  intro pins s σ H x v vl vu lo hi sl Q I rx hs pl pu h
  obtain ⟨a,xs,rfl,hx,q⟩:=h
  cases rx
  obtain ⟨its,r,ht,hz⟩:=I.list hx
  have hlen:=r.length
  refine ⟨"list",_,slot_list_getitem.lookup,ht.isList.typeIs,?_⟩
  refine wpAny_getItem_list_slice ht.isList hs pl pu .none (by simp) ?_ (by rw [List.size_toArray] <;> omega)
  rw [Z6A,<- hlen]
  refine ⟨.ref s.heap.objs.size,_,I.laid (t':=s.toks) (o:=.lst (cutV xs lo hi)) (fun b ob q=>Heap.get?_push_of_some _ q) (Nat.le_refl _) ?_,rfl,q _ (I.hok.fresh (Nat.le_refl _))⟩
  exact ⟨Nat.le_trans (Z5T xs lo hi) hz,_,0,(r.drop (HT.sIx xs.length 0 lo)).take (HT.sIx xs.length xs.length hi - HT.sIx xs.length 0 lo),Heap.get?_push_size _ rfl⟩
theorem Z7s:OpR X (compareOp .NotIn) (fun x y H Q=>∃ i j,x=.str i /\ y=.str j /\ Q (.bl (!(!(Builtin.Str.occurrences j i 0 j.length 1).isEmpty))) H):=by
  intro pins s σ H x y v u Q I rx ry h
  obtain ⟨i,j,rfl,rfl,q⟩:=h
  obtain ⟨t,rfl⟩:=rx
  obtain ⟨t',rfl⟩:=ry
  exact notIn_str ⟨.bl _,H,I,rfl,q⟩
theorem call_len_seq:CallR X (.builtin "len") (fun xs H Q=>∃ p ys,xs=[.ref p] /\ (SqL X.K H p ys \/ SqT X.K H p ys) /\ Q (.int ys.length) H):=by
  intro pins s σ H xs us Q I r h
  obtain ⟨p,ys,rfl,hq,q⟩:=h
  obtain ⟨u,rfl,rx⟩:=Z6z r
  cases rx
  have hn:=Z6j
  rcases hq with hq | hq
  . obtain ⟨its,r',pl,hz⟩:=I.list hq
    have hlen:=r'.length
    exact Calls.call_len_list pl.isList (by simp only [List.size_toArray] <;> omega) ⟨.int ys.length,H,I.tok _,⟨s.toks + 1,by rw [List.size_toArray,hlen]⟩,q⟩
  . obtain ⟨its,r',pl,hz⟩:=I.tuple hq
    have hlen:=r'.length
    exact len_tuple pl (by simp only [List.size_toArray] <;> omega) ⟨.int ys.length,H,I.tok _,⟨s.toks + 1,by rw [List.size_toArray,hlen]⟩,q⟩
theorem Z7W:CallR X (.builtin "len") (fun xs H Q=>∃ z,xs=[.str z] /\ z.length <= sizeLine /\ Q (.int z.length) H):=by
  intro pins s σ H xs us Q I r h
  obtain ⟨z,rfl,hz,q⟩:=h
  obtain ⟨u,rfl,t,rfl⟩:=Z6z r
  have hn:=Z6j
  exact len_str (by omega) ⟨.int z.length,H,I.tok _,⟨_,rfl⟩,q⟩
theorem CallR.or {f:Value} {r r':List V -> Hp -> VK -> Prop} (h:CallR X f r) (h':CallR X f r'):CallR X f (fun xs H Q=>r xs H Q \/ r' xs H Q):=by
  intro pins s σ H xs us Q I rs q
  rcases q with q | q
  . exact h pins s σ H xs us Q I rs q
  . exact h' pins s σ H xs us Q I rs q
theorem Z7V:CallR X (.type "list") (fun xs H Q=>∃ p ys,xs=[.ref p] /\ (SqL X.K H p ys \/ SqT X.K H p ys) /\ ∀ l,H l=none -> Q (.ref l) (upd H l (.lst ys))):=by
  intro pins s σ H xs us Q I r h
  obtain ⟨p,ys,rfl,hq,q⟩:=h
  obtain ⟨u,rfl,rx⟩:=Z6z r
  cases rx
  have fin:∀ (its:List Value),Vals ys its -> ys.length <= sizeLine -> ∀ (h':Heap) (c':Nat),(∀ b o',s.heap.get? b=some o' -> h'.get? b=some o') ->
      h'.get? s.heap.objs.size=some { cls:=.type "list",dict:=none,data:=.seq its.toArray c',slots:=#[] } -> EP X pins σ Q (.ref s.heap.objs.size) { s with heap:=h' }:=fun its r' hz h' c' kp e =>
    ⟨.ref s.heap.objs.size,_,I.laid (t':=s.toks) kp (Nat.le_refl _) (show ObjOk X.prog X.w _ h' _ (.lst ys) from ⟨hz,its,c',r',e⟩),rfl,q _ (I.hok.fresh (Nat.le_refl _))⟩
  rcases hq with hq | hq
  . obtain ⟨its,r',pl,hz⟩:=I.list hq
    have hlen:=r'.length
    obtain ⟨o,ho,hc,n,hd⟩:=pl.isList
    exact call_list_seq p (.inl rfl) ho hc hd (fun h' c' kp e=>fin its r' hz h' c' kp e) (by simp only [List.size_toArray] <;> omega)
  . obtain ⟨its,r',pl,hz⟩:=I.tuple hq
    have hlen:=r'.length
    obtain ⟨o,ho,hc,n,hd⟩:=pl
    exact call_list_seq p (.inr rfl) ho hc hd (fun h' c' kp e=>fin its r' hz h' c' kp e) (by simp only [List.size_toArray] <;> omega)
theorem Z71:CallR X (.type "tuple") (fun xs H Q=>∃ p ys,xs=[.ref p] /\ ((SqL X.K H p ys /\ ∀ l,H l=none -> Q (.ref l) (upd H l (.tup ys))) \/ (SqT X.K H p ys /\ Q (.ref p) H))):=by
  intro pins s σ H xs us Q I r h
  obtain ⟨p,ys,rfl,h⟩:=h
  obtain ⟨u,rfl,rx⟩:=Z6z r
  cases rx
  rcases h with ⟨hq,q⟩ | ⟨hq,q⟩
  . obtain ⟨its,r',pl,hz⟩:=I.list hq
    have hlen:=r'.length
    refine call_tuple_list pl.isList (fun h' kp=>?_) (by simp only [List.size_toArray] <;> omega)
    have I1:Inv X pins σ H { s with heap:=h' }:=I.kept (t':=s.toks) kp
    have I2:Inv X pins σ (upd H h'.objs.size (.tup ys)) { s with heap:=h'.push { cls:=.type "tuple",data:=.seq its.toArray } } :=
      I1.laid (t':=s.toks) (fun b o e=>Heap.get?_push_of_some _ e) (Nat.le_refl _) (show ObjOk X.prog X.w _ _ _ (.tup ys) from ⟨hz,its,r',IsTup.new _ _⟩)
    exact ⟨.ref h'.objs.size,_,I2,rfl,q _ (I1.hok.fresh (Nat.le_refl _))⟩
  . obtain ⟨its,r',pl,hz⟩:=I.tuple hq
    exact call_tuple_same pl ⟨.ref p,H,I,rfl,q⟩
noncomputable def tyV (K:Frag) (T:String) (x:V) (H:Hp):Prop:=match x with
  | .str _=>T = "str"
  | .int _=>T = "int"
  | .ref p=>(T = "list" /\ ∃ xs,SqL K H p xs) \/ (T = "tuple" /\ ∃ o,K.lookup p=some o /\ o.cls=.type "tuple" /\ o.dict=none) \/
      (T = "dict" /\ ((∃ kvs,H p=some (.dK kvs)) \/ ∃ kvs,H p=some (.dT kvs))) \/ (T = "set" /\ ∃ S n,H p=some (.set S n))
  | _=>False
theorem Zev {pins:List (Addr × Obj)} {σ:St} {H:Hp} {s:Shared} {T:String} {x:V} {v:Value} (I:Inv X pins σ H s) (r:RelV x v) (ty:tyV X.K T x H) :
    s.TypeIs v T /\ ∀ a,v=.ref a -> ∃ ob,s.heap.get? a=some ob /\ ob.dict=none:=by
  cases x with
  | str z =>
    obtain ⟨t,rfl⟩:=r
    cases (show T = "str" from ty)
    exact ⟨typeIs_str s z t,fun _ e=>nomatch e⟩
  | int i =>
    obtain ⟨t,rfl⟩:=r
    cases (show T = "int" from ty)
    exact ⟨typeIs_int s i t,fun _ e=>nomatch e⟩
  | ref p =>
    cases r
    rcases ty with ⟨rfl,xs,hq⟩ | ⟨rfl,o,hk,hc,hd⟩ | ⟨rfl,hk⟩ | ⟨rfl,S,n,hk⟩
    . obtain ⟨its,_,pl,_⟩:=I.list hq
      refine ⟨pl.isList.typeIs,fun a e=>?_⟩
      cases e
      obtain ⟨o,n,e,c,hd,_⟩:=pl
      exact ⟨o,e,hd⟩
    . refine ⟨⟨o,I.kIn p o hk,hc⟩,fun a e=>?_⟩
      cases e
      exact ⟨o,I.kIn _ o hk,hd⟩
    . have z:∃ o,s.heap.get? p=some o /\ o.ExactDict:=by
        rcases hk with ⟨kvs,hk⟩ | ⟨kvs,hk⟩
        . obtain ⟨_,_,_,_,o,_,_,e,ex,_⟩:=I.hok p _ hk
          exact ⟨o,e,ex⟩
        . obtain ⟨_,_,_,_,o,_,_,e,ex,_⟩:=I.hok p _ hk
          exact ⟨o,e,ex⟩
      obtain ⟨o,e,ex⟩:=z
      refine ⟨⟨o,e,ex.1⟩,fun a e2=>?_⟩
      cases e2
      exact ⟨o,e,ex.2.1⟩
    . obtain ⟨o,_,_,_,e,ex,_⟩:=I.hok p _ hk
      refine ⟨⟨o,e,ex.1⟩,fun a e2=>?_⟩
      cases e2
      exact ⟨o,e,ex.2.1⟩
  | _=>exact False.elim ty
noncomputable def tBM (K:Frag) (T:String) (r:V -> List V -> Hp -> VK -> Prop) (to:TE) (t:TA):TE:=fun σ H Q=>to σ H fun x H1=>tyV K T x H1 /\ t σ H1 fun xs H2=>r x xs H2 Q
variable {o e:Expr} {es:List Expr} {to:TE} {t:TA} {name:Str} {apos cpos:Pos} {T id:String} {r:V -> List V -> Hp -> VK -> Prop}
theorem ZfT (pa:PlainAttrs T) (slot:Slot T name id) (hty:typeOf (.builtin id)=pure (.type "method_descriptor")) (hm:MtR X id r) (ho:PE X o to) (ha:PA X (e :: es) t)
    (hbase:attributeBase o name X.env (eval o X.env)=eval o X.env:=by rfl)
    (hfew:((backTo cpos (starEach (e :: es) X.env)).all (fun x=>!x.1) && (backToKw cpos (keywordEach [] X.env)).all (fun x=>x.1.isSome)
      && decide ((e :: es).length + ([]:List Keyword).length + (if ([]:List Keyword).isEmpty then 0 else 1) < 30))=true:=by rfl)
    (hline:(apos.endLine == cpos.line)=true:=by rfl) (hs:starEach (e :: es) X.env=(false,eval e X.env) :: starEach es X.env:=by rfl) (hplain:(backTo cpos (starEach es X.env)).any (·.1)=false:=by rfl) :
    PE X (.Call (.Attribute o name apos) (e :: es) [] cpos) (tBM X.K T r to t):=by
  intro pins s σ H Q I h
  refine wpAny_Call_method_late hbase hfew hline rfl (thn (ho pins s σ H _ I h) fun v s1 ⟨x,H1,I1,r1,ty,q1⟩=>?_)
  obtain ⟨h1,h2⟩:=Zev I1 r1 ty
  refine ⟨T,id,pa,slot,hty,h1,h2,?_⟩
  have hA:=ha cpos pins s1 σ H1 _ I1 q1
  rw [hs] at hA ⊢
  refine Calls.callWith_builtin (by show (false || (backTo cpos (starEach es X.env)).any (·.1))=false; rw [hplain] <;> rfl) (Calls.evalArgs_plain ?_)
  exact thn hA fun us s2 ⟨vs,H2,I2,r2,q2⟩=>hm pins s2 σ H2 x vs v us Q I2 r1 r2 q2
end
noncomputable def MtM (X:Cx) (id:String) (r:V -> List V -> Hp -> VK -> Prop):Prop :=
  ∀ (pins:List (Addr × Obj)) (s:Shared) (σ:St) (H:Hp) (x:V) (xs:List V) (v:Value) (us:List Value) (Q:VK),Inv X pins σ H s -> RelV x v -> Vals xs us -> r x xs H Q ->
    wpAny (model X.prog X.w) X.A (call (.builtin id) (v :: us)) (EP X pins σ Q) X.xe s
theorem Vals.one:∀ {x:V} {us:List Value},Vals [x] us -> ∃ u,us=[u] /\ RelV x u
  | _,_,.cons r .nil=>⟨_,rfl,r⟩
theorem Vals.two:∀ {x y:V} {us:List Value},Vals [x,y] us -> ∃ u v,us=[u,v] /\ RelV x u /\ RelV y v
  | _,_,_,.cons r (.cons q .nil)=>⟨_,_,rfl,r,q⟩
theorem Vals.zero:∀ {us:List Value},Vals [] us -> us=[]
  | _,.nil=>rfl
section
variable {X:Cx} {pins:List (Addr × Obj)} {σ:St} {H:Hp} {s:Shared} {l b:Addr} {xs ys zs:List V}
theorem Inv.lset {its its':List Value} {n:Nat} {f:Array Value -> Array Value} {t':Nat} (I:Inv X pins σ H s) (hH:H l=some (.lst xs))
    (e:s.heap.get? l=some { cls:=.type "list",data:=.seq its.toArray n }) (hf:f its.toArray=its'.toArray) (hv:Vals ys its') (hz:ys.length <= sizeLine) :
    Inv X pins σ (upd H l (.lst ys)) { s with heap:=s.heap.update l (Obj.mapSeq f),toks:=t' }:=by
  have q:=PySem.IsL.update e f
  rw [hf] at q
  refine I.write (x:=l) (e:=l) (by rw [hH]; exact trivial) (.inl rfl) (fun b' u hb hu=>(Heap.get?_update_other s.heap (Obj.mapSeq f) (Ne.symm hb)).trans hu) ⟨_,q⟩ ?_
  exact ⟨hz,its',_,hv,q⟩
theorem Inv.lnew {its:List Value} {t':Nat} (I:Inv X pins σ H s) (hv:Vals ys its) (hz:ys.length <= sizeLine) :
    Inv X pins σ (upd H s.heap.objs.size (.lst ys)) { s with heap:=s.heap.push { cls:=.type "list",data:=.seq its.toArray },toks:=t' } :=
  I.laid (fun _ _ q=>Heap.get?_push_of_some _ q) (Nat.le_refl _) ⟨hz,its,0,hv,Heap.get?_push_size _ rfl⟩
theorem Inv.fresh (I:Inv X pins σ H s):H s.heap.objs.size=none:=I.hok.fresh (Nat.le_refl _)
theorem Inv.lstM (I:Inv X pins σ H s) (hH:H l=some (.lst xs)):xs.length <= sizeLine /\ ∃ (its:List Value) (n:Nat),Vals xs its /\ xs.length=its.length /\ s.heap.get? l=some { cls:=.type "list",data:=.seq its.toArray n }:=by
  obtain ⟨z,its,n,r,e⟩:=I.hok l _ hH
  exact ⟨z,its,n,r,r.length,e⟩
end
section
variable {X:Cx}
noncomputable def Zak:V -> List V -> Hp -> VK -> Prop:=fun x vs H Q=>∃ l xs y,x=.ref l /\ vs=[y] /\ H l=some (.lst xs) /\ xs.length < sizeLine /\ Q .non (upd H l (.lst (xs ++ [y])))
theorem Z7C:MtM X "list.append" Zak:=by
  intro pins s σ H x vs v us Q I rx rv h
  obtain ⟨l,xs,y,rfl,rfl,hH,hz,q⟩:=h
  cases rx
  obtain ⟨u,rfl,ru⟩:=rv.one
  obtain ⟨z,its,n,r,hl,e⟩:=I.lstM hH
  refine call_meets F.slot_list_append ⟨_,e,rfl⟩ F.entry_list_append (F.args_list_append_2 _ _) (PySem.list_append l its.toArray n u (by rw [List.size_toArray]; omega)) ⟨e,?_⟩
  refine ⟨.non,_,I.lset (its':=its ++ [u]) hH e (by simp) (r.append (.cons ru .nil)) ?_,rfl,q⟩
  rw [List.length_append,List.length_singleton]
  omega
noncomputable def rCat:R2:=fun x y H Q=>∃ l b xs zs,x=.ref l /\ y=.ref b /\ H l=some (.lst xs) /\ H b=some (.lst zs) /\ xs.length + zs.length <= sizeLine /\ ∀ p,H p=none -> Q (.ref p) (upd H p (.lst (xs ++ zs)))
theorem ZcZ:OpR X (binaryOp .Add) rCat:=by
  intro pins s σ H x y v u Q I rx ry h
  obtain ⟨l,b,xs,zs,rfl,rfl,hH,hB,hz,q⟩:=h
  cases rx
  cases ry
  obtain ⟨z,its,n,r,hl,e⟩:=I.lstM hH
  obtain ⟨z2,its2,n2,r2,hl2,e2⟩:=I.lstM hB
  refine PySem.P.add_list e e2 ?_ (by rw [List.size_toArray,List.size_toArray]; omega)
  have ea:its.toArray ++ its2.toArray=(its ++ its2).toArray:=by simp
  rw [ea]
  exact ⟨.ref _,_,I.lnew (t':=s.toks) (r.append r2) (by rw [List.length_append]; omega),rfl,q _ I.fresh⟩
end
section
variable {prog:Program} {w:World} {A:Around} {E:Value -> Shared -> Prop} {s:Shared}
set_option maxRecDepth 100000 in
end
section
variable {X:Cx}
end
end L2
namespace Att
open PySem PySem.W PySem.Calls PyProof.Rows
theorem Z5F {P:Params} {h:Heap}:∀ (ns:List Int) (vs:List Value),WellAll P h vs (ns.map WData.int) -> IntsAre vs ns:=by
  intro ns
  induction ns with
  | nil =>
    intro vs w
    rw [List.map_nil] at w
    cases w
    exact .nil
  | cons n ns ih =>
    intro vs w
    rw [List.map_cons] at w
    cases w with
    | cons a b =>
      cases a
      exact .cons _ _ (ih _ b)
theorem Zae {l:OpenLaw} {n:Nat} (hn:l.most=some n) {P:Params} {h:Heap} {args:List WData} {vals:List Value}
    (hpre:l.row.toRowW.claim.pre args=true) (hwl:WellAll P h vals args) :
    ∃ a vs ns,vals=[Value.ref a] /\ args=[WData.list (ns.map WData.int)] /\ h.get? a=some { cls:=.type "list",data:=.seq vs.toArray } /\ IntsAre vs ns /\ ns.length <= n:=by
  have hsh:WShape.hasAll [] args [.list .int]=true:=(pre_splitW hpre).1
  have hc:l.pre.holds [] { args:=args }=true:=(pre_splitW hpre).2
  obtain ⟨d,r,rfl,h1,h2⟩:=hasAllW_cons hsh
  obtain rfl:=hasAllW_nil h2
  obtain ⟨xs,rfl,h3⟩:=hasW_list h1
  obtain ⟨ns,rfl⟩:=items_int h3
  have hlen:ns.length <= n:=by
    unfold OpenLaw.pre at hc
    have h4:(WTm.not (.lt (.lit (.int (n:Int))) (.len (.arg 0)))).holds [] { args:=[.list (ns.map .int)] }=true:=by
      have h4:=(holds_andW hc).1
      rw [hn] at h4
      exact h4
    have h5:=condW_of h4 (w_not (w_lt w_lit (w_len_list (w_arg rfl))))
    rw [List.length_map] at h5
    refine Nat.le_of_not_lt fun q=>?_
    have q':(n:Int) < ((ns.length:Nat):Int):=by omega
    first
      | (rw [decide_eq_true q'] at h5; exact absurd h5 (by decide))
      | (simp at h5; omega)
  cases hwl with
  | cons w1 w2 =>
    cases w2
    cases w1 with
    | list ho hall=>exact ⟨_,_,ns,rfl,rfl,ho,Z5F ns _ hall,hlen⟩
theorem ZaB (l:OpenLaw) (args:List WData):l.row.toRowW.claim.post args (.bool true) args=true :=
  postW_of (r:=l.row.toRowW) (X:=(true == true))
    (show WShape.has [] (.bool true) .bool=true by first | rfl | decide | simp [WShape.has,WShape.arms,WShape.armsAll])
    (show (WTm.eq .res (.lit (.bool true))).value [] { args:=args,res:=some (.bool true),after:=args }=some (.bool (true == true)) from w_eq_bool (w_res rfl) w_lit) rfl
section
variable {prog:Program} {w:World} {A:Around} {E:Value -> Shared -> Prop} {s:Shared} {K:Frag}
end
end Att
namespace L2
open PySem PySem.Spec PyProof.Rows
theorem Z3v:∀ {vs:List Value} {ns:List Int},IntsAre vs ns -> Vals (ns.map V.int) vs
  | _,_,.nil=>.nil
  | _,_,.cons n t h=>.cons ⟨t,rfl⟩ (Z3v h)
noncomputable def Only (H:Hp):Prop:=∀ b,H b=none \/ ∃ o xs,H b=some (.frz o (.lst xs))
theorem Zco {P:Program} {w:World} {K:Frag} {mg mb:Str -> Option Value} {CX:CXT} {k:Nat} {fa a:Addr} {fd:FuncData} {x:Str} {sp:Sp} {s₁:Shared} {vs:List Value} {ns:List Int}
    (KX:K.In s₁.heap) (hns:s₁.heap.Ns mainGlobals mg) (hb:s₁.heap.Ns builtinsNs mb) (hbb:∀ x:Str,x ≠ "__name__" -> mb x=bootBuiltins x) (hlim:s₁.heap.NoLimit) (hg:s₁.gens = #[])
    (ha:s₁.heap.get? a=some { cls:=.type "list",data:=.seq vs.toArray }) (hi:IntsAre vs ns) (hl:ns.length <= sizeLine) (hr:Room k callerA)
    (F:∀ base:Heap,K.In base -> base.Ns mainGlobals mg -> FnOk P w K mg base CX k fa fd [x] sp) (hbind:∀ (s:Shared) (u:Value),BindsTo s fd ⟨[u],[]⟩ [(x,u)])
    (hsp:∀ H:Hp,Only H -> SqL K H a (ns.map V.int) -> sp [.ref a] H (fun v _=>v=.bl true) fun _ _ _=>False)
    (hCX:∀ H e s',CX [] H s₁ (fun _ _ _=>False) e s' -> False) :
    codeAny (model P w) callerA (.call (.ref fa) ⟨[.ref a],[]⟩) (fun r s'=>r=.ok (.ret (.bool true)) /\ OldK s₁.heap s'.heap /\ s'.os=s₁.os /\ AllBare s'.gens) s₁:=by
  have rv:=Z3v hi
  have lenV:=hi.length
  -- from an abstract heap in which nothing but the script may be tracked
  have core:∀ H:Hp,Only H -> SqL K H a (ns.map V.int) -> HOk P w H s₁.heap -> (∀ b,H b ≠ none -> b=a) -> (H a ≠ none -> K.lookup a=none) ->
      codeAny (model P w) callerA (.call (.ref fa) ⟨[.ref a],[]⟩) (fun r s'=>r=.ok (.ret (.bool true)) /\ OldK s₁.heap s'.heap /\ s'.os=s₁.os /\ AllBare s'.gens) s₁:=by
    intro H hO hS hok hA hK
    have base_of:∀ {b:Addr} {o:Obj},s₁.heap.get? b=some o -> H b=none -> (hidT s₁.heap H).get? b=some o:=fun e n=>Zcw e n
    have noA:∀ {b:Addr} {o:Obj} {es:Array DictEntry} {ep:Nat},s₁.heap.get? b=some o -> o.data=.dict es ep -> H b=none:=fun {b o es ep} e d=>by
      cases q:H b with
      | none=>rfl
      | some u =>
        have e':b=a:=hA b (by rw [q]; simp)
        subst e'
        rw [ha] at e; cases e
        have d':Data.seq vs.toArray _=Data.dict es ep:=d
        cases d'
    have nsK:∀ {b:Addr} {m:Str -> Option Value},s₁.heap.Ns b m -> (hidT s₁.heap H).Ns b m:=fun {b m} ⟨o,es,ep,e,d,r⟩=>⟨o,es,ep,base_of e (noA e d),d,r⟩
    have hKb:K.In (hidT s₁.heap H):=fun b o e=>base_of (KX b o e) (by
      cases q:H b with
      | none=>rfl
      | some u =>
        have e':b=a:=hA b (by rw [q]; simp)
        subst e'
        rw [hK (by rw [q]; simp)] at e; cases e)
    have hM:Mod K mg (hidT s₁.heap H):=⟨hKb,nsK hns,⟨mb,nsK hb,hbb⟩,let ⟨mc,h1,h2⟩:=hlim; ⟨mc,nsK h1,h2⟩⟩
    have e0:Env0 P w K mg (hidT s₁.heap H) callerA [] s₁ H:=⟨rfl,hM,fun b o e=>ZdZ e,Nat.le_of_eq (Zb6 _ _),trivial,fun b hb=>absurd (show b ∈ ([]:List Addr) from hb) (by simp),hok,.of_eq hg⟩
    refine codeAny_mono ((F _ hKb (nsK hns)).run callerA [] s₁ H ⟨[.ref a],[]⟩ [.ref a] [.ref a] _ _ hr e0 (hbind s₁ (.ref a)) (.cons rfl .nil) (hsp H hO hS)) fun r s' h=>?_
    cases r with
    | error e=>exact (hCX H e s' h).elim
    | ok fl =>
      cases fl with
      | next=>exact False.elim h
      | brk=>exact False.elim h
      | cont=>exact False.elim h
      | ret u =>
        obtain ⟨v,H',os,bare,un,hok',r',q⟩:=h
        have q':v=.bl true:=q
        subst q'
        obtain rfl:u=Value.bool true:=r'
        refine ⟨rfl,OldK.of_keep fun b o e=>?_,os,bare⟩
        cases q:H b with
        | none=>exact un.keep b o e q (by intro z; exact absurd (show b ∈ ([]:List Addr) from z) (by simp)) (by simp)
        | some u =>
          rcases hO b with z | ⟨ob,xs,z⟩
          . rw [q] at z; cases z
          . have z2:=un.frzs b ob _ z
            obtain ⟨e1,_⟩:=hok b _ z
            obtain ⟨e2,_⟩:=hok' b _ z2
            rw [e] at e1; cases e1
            exact e2
  cases hk:K.lookup a with
  | some o =>
    -- the script is one of the module's own objects
    have e:=KX a o hk
    rw [ha] at e
    cases e
    refine core (fun _=>none) (fun _=>.inl rfl) (.inr ⟨_,vs.toArray,_,hk,rfl,rfl,rfl,by rw [List.size_toArray,lenV]; exact hl,by simpa using rv⟩) (fun b u z=>by have z':(none:Option HO)=some u:=z; cases z') (fun b z=>absurd rfl z) fun z=>absurd rfl z
  | none =>
    refine core (fun b=>if b=a then some (.frz { cls:=.type "list",data:=.seq vs.toArray } (.lst (ns.map V.int))) else none) (fun b=>?_) (.inl (.inr ⟨{ cls:=.type "list",data:=.seq vs.toArray },if_pos rfl⟩)) (fun b u z=>?_) (fun b z=>?_) fun _=>hk
    . by_cases hb:b=a
      . exact .inr ⟨_,_,if_pos hb⟩
      . exact .inl (if_neg hb)
    . by_cases hb:b=a
      . have z':=(if_pos hb).symm.trans z
        cases z'
        subst hb
        exact ⟨ha,by rw [List.length_map]; exact hl,vs,_,rv,ha⟩
      . have z':=(if_neg hb).symm.trans z
        cases z'
    . by_cases hb:b=a
      . exact hb
      . exact absurd (if_neg hb) z
noncomputable def Zeb (s:Stmt) (j:Nat):Stmt:=match s with
  | .ClassDef _ _ _ body _ _ _ _ _ _ _=>body.getD j (.Pass ⟨0,0,0,0⟩)
  | _=>.Pass ⟨0,0,0,0⟩
noncomputable def Z0b (s:Stmt):Arguments:=match s with
  | .FunctionDef _ a _ _ _ _ _ _ _ _=>a
  | _=>{ posonlyargs:=[],args:=[],vararg:=none,kwonlyargs:=[],kw_defaults:=[],kwarg:=none,defaults:=[] }
noncomputable def Z0a (s:Stmt):List Stmt:=match s with
  | .FunctionDef _ _ b _ _ _ _ _ _ _=>b
  | _=>[]
noncomputable def Z04 (s:Stmt):Scope:=match s with
  | .FunctionDef _ _ _ _ _ _ sc _ _ _=>sc
  | _=>{ kind:=.function,names:=[],isGenerator:=false,isCoroutine:=false }
noncomputable abbrev CX0:CXT:=fun _ _ _ _ _ _=>False
noncomputable abbrev E0:XK:=fun _ _ _=>False
theorem Zf4 {X:Cx}:Z83 CX0 X E0:=fun _ _ _ _ _ _ _ h=>h.elim
structure Fun (K:Frag) (x qual:Str) (st:Stmt) (f:Addr) (fd:FuncData):Prop where
  ex:∃ (oc:Value) (od:Option Addr) (kV doc pm:Value) (an:Option Addr) (cdv ct:Value) (osl:Array (Option Value)),
    fd=fnOf x qual (Z0b st) (Z0a st) (Z04 st) .none kV doc pm an cdv ct /\ K.lookup f=some ⟨oc,od,.func fd,osl⟩ /\ codeIn K cdv qual=true
  kp:keepIn K (.ref f)=true
section
variable {P:Program} {w:World} {K:Frag} {mg:Str -> Option Value} {base:Heap}
theorem Fun.ok {x qual:Str} {st:Stmt} {f:Addr} {fd:FuncData} {N ps:List Str} {k:Nat} {sp:Sp} (F:Fun K x qual st f fd) (S:Z0p N ps (Z04 st)) (len:∀ vs H Q E,sp vs H Q E -> vs.length=ps.length)
    (hbody:∀ (cdv:Value) (A:Around) (outer:List Env) (s:Shared) (H:Hp) (vs:List V) (Q:VK) (E:XK),Room k (A.deeper (envOfC qual (Z04 st) s.heap.objs.size f cdv)) -> sp vs H Q E ->
      ∃ t,PSs (cxOf CX0 P w K mg base N qual (Z04 st) f cdv A outer s H E).nox (Z0a st) t /\ t { nx:=fun _ H'=>Q .non H',rt:=Q } (start N vs) H):FnOk P w K mg base CX0 (k + 1) f fd ps sp:=by
  obtain ⟨oc,od,kV,doc,pm,an,cdv,ct,osl,rfl,lk,hcd⟩:=F.ex
  refine Zef lk hcd S len fun A outer s H vs Q E hr hsp=>?_
  obtain ⟨t,h,q⟩:=hbody cdv A outer s H vs Q E hr hsp
  exact ⟨t,h.nox,q⟩
theorem Fun.binds {x qual:Str} {st:Stmt} {f:Addr} {fd:FuncData} {ps:List Str} (F:Fun K x qual st f fd)
    (h:∀ (kV doc pm:Value) (an:Option Addr) (cdv ct:Value) (us:List Value),us.length=ps.length -> bindArgs (fnOf x qual (Z0b st) (Z0a st) (Z04 st) .none kV doc pm an cdv ct) ⟨us,[]⟩=pure (ps.zip us)):Binds K fd ps []:=by
  obtain ⟨oc,od,kV,doc,pm,an,cdv,ct,osl,rfl,lk,hcd⟩:=F.ex
  exact .all (h kV doc pm an cdv ct)
end
theorem Z4Q {A:Around} {k:Nat} (hr:Room k A):A.units + 1 < cLine:=Nat.lt_of_le_of_lt (Nat.add_le_add_left (by decide:1 <= 64) _) hr.units
theorem Z4m {n:Nat} (h:n <= 1000):n < sizeLine:=Nat.lt_of_le_of_lt h (by decide)
section
variable {X:Cx}
theorem pv (i:Nat) {x:Str} {pos:Pos} (hN:X.N[i]? = some x:=by rfl) (hv:Vis X.env.scope x:=by first | exact Or.inl rfl | exact Or.inr (Or.inl rfl) | exact Or.inr (Or.inr rfl)) (hd:(x == ("__debug__" : Str))=false:=by decide)
    (hcd:(x == ("__classdict__" : Str))=false:=by decide):PE X (.Name x pos) (tVar i):=Z4s hN hv hd hcd
end
theorem iteF {A B:Prop} (h:B):if false=true then A else B:=by
  rw [if_neg Bool.false_ne_true]
  exact h
theorem iteT {A B:Prop} (h:A):if true=true then A else B:=by
  rw [if_pos rfl]
  exact h
noncomputable def Same (H H':Hp):Prop:=∀ b o,H b=some o -> H' b=some o
theorem Same.refl (H:Hp):Same H H:=fun _ _ h=>h
theorem Same.trans {H H1 H2:Hp} (a:Same H H1) (b:Same H1 H2):Same H H2:=fun c o h=>b c o (a c o h)
theorem Same.free {H H':Hp} (e:Same H H') {l:Addr} (h:H' l=Option.none):H l=Option.none:=by
  cases q:H l with
  | none=>rfl
  | some o =>
    rw [e l o q] at h
    cases h
theorem Same.seq {K:Frag} {H H':Hp} {a:Addr} {xs:List V} (e:Same H H') (h:SqL K H a xs):SqL K H' a xs:=by
  rcases h with (h | ⟨o,h⟩) | h
  . exact .inl (.inl (e _ _ h))
  . exact .inl (.inr ⟨o,e _ _ h⟩)
  . exact .inr h
section
variable {κ:Type} [DecidableEq κ]
noncomputable def valV (kvs:List (κ × V)) (k:κ):Option V:=(kvs.find? fun kv=>decide (kv.1=k)).map (·.2)
noncomputable def putK (kvs:List (κ × V)) (k:κ) (v:V):List (κ × V) :=
  if (kvs.any fun kv=>decide (kv.1=k))=true then kvs.map (fun kv=>if kv.1=k then (kv.1,v) else kv) else kvs ++ [(k,v)]
noncomputable def Zfq (kvs:List (κ × V)) (k:κ):List (κ × V):=kvs.filter fun kv=>decide (kv.1 ≠ k)
theorem Z5c {p:κ × V} {r:List (κ × V)} {k:κ} (e:p.1=k):valV (p :: r) k=some p.2:=by simp [valV,List.find?_cons,e]
theorem Z5d {p:κ × V} {r:List (κ × V)} {k:κ} (e:¬ p.1=k):valV (p :: r) k=valV r k:=by simp [valV,List.find?_cons,e]
theorem Z8E (k:κ):∀ kvs:List (κ × V),(kvs.any fun kv=>decide (kv.1=k))=(valV kvs k).isSome
  | []=>rfl
  | p :: r=>by
    rw [List.any_cons]
    by_cases e:p.1=k
    . simp only [Z5c e,decide_eq_true e,Bool.true_or,Option.isSome_some]
    . rw [Z5d e,decide_eq_false e,Bool.false_or]; exact Z8E k r
theorem Z4d (kvs:List (κ × V)) (k:κ) (v:V):(putK kvs k v).length <= kvs.length + 1:=by
  unfold putK
  split
  . rw [List.length_map]; omega
  . rw [List.length_append,List.length_cons,List.length_nil]; omega
theorem RelO.isSome_eq {o:Option V} {u:Option Value} (r:RelO o u):o.isSome=u.isSome:=by
  cases o with
  | none=>cases u with
    | none=>rfl
    | some _=>exact (show False from r).elim
  | some _=>cases u with
    | none=>exact (show False from r).elim
    | some _=>rfl
theorem RelO.getD {o:Option V} {u:Option Value} {d:V} {d':Value} (r:RelO o u) (rd:RelV d d'):RelV (o.getD d) (u.getD d'):=by
  cases o with
  | none=>cases u with
    | none=>exact rd
    | some _=>exact (show False from r).elim
  | some _=>cases u with
    | none=>exact (show False from r).elim
    | some _=>exact r
theorem KV.val {kvs:List (κ × V)} {vs:List (κ × Value)} (r:KV kvs vs) (k:κ):RelO (valV kvs k) (valueAt vs k):=by
  unfold KV at r
  induction r with
  | nil=>exact True.intro
  | @cons p q ps qs h t ih =>
    obtain ⟨h1,h2⟩:=h
    by_cases e:p.1=k
    . have e':q.1=k:=h1.symm.trans e
      have b:valueAt (q :: qs) k=some q.2:=by simp [valueAt,List.find?_cons,e']
      rw [Z5c e,b]; exact h2
    . have e':¬ q.1=k:=fun z=>e (h1.trans z)
      have b:valueAt (q :: qs) k=valueAt qs k:=by simp [valueAt,List.find?_cons,e']
      rw [Z5d e,b]; exact ih
theorem KV.any {kvs:List (κ × V)} {vs:List (κ × Value)} (r:KV kvs vs) (k:κ):(kvs.any fun kv=>decide (kv.1=k))=vs.any fun kv=>decide (kv.1=k):=by
  unfold KV at r
  induction r with
  | nil=>rfl
  | cons h t ih=>rw [List.any_cons,List.any_cons,ih,h.1]
theorem KV.repl {kvs:List (κ × V)} {vs:List (κ × Value)} (r:KV kvs vs) (k:κ) {y:V} {u:Value} (ry:RelV y u) :
    KV (kvs.map fun kv=>if kv.1=k then (kv.1,y) else kv) (vs.map fun kv=>if kv.1=k then (kv.1,u) else kv):=by
  unfold KV at r ⊢
  induction r with
  | nil=>exact .nil
  | @cons p q ps qs h t ih =>
    rw [List.map_cons,List.map_cons]
    refine .cons ?_ ih
    obtain ⟨h1,h2⟩:=h
    by_cases e:p.1=k
    . rw [if_pos e,if_pos (h1.symm.trans e)]; exact ⟨h1,ry⟩
    . rw [if_neg e,if_neg (fun z=>e (h1.trans z))]; exact ⟨h1,h2⟩
theorem KV.put {kvs:List (κ × V)} {vs:List (κ × Value)} (r:KV kvs vs) (k:κ) {y:V} {u:Value} (ry:RelV y u):KV (putK kvs k y) (stored vs k u):=by
  unfold putK stored
  rw [r.any k]
  by_cases e:(vs.any fun kv=>decide (kv.1=k))=true
  . rw [if_pos e,if_pos e]; exact r.repl k ry
  . rw [if_neg e,if_neg e]; exact Paired.snoc r ⟨rfl,ry⟩
theorem KV.drop {kvs:List (κ × V)} {vs:List (κ × Value)} (r:KV kvs vs) (k:κ):KV (Zfq kvs k) (without vs k):=by
  unfold KV at r ⊢
  unfold Zfq without
  induction r with
  | nil=>exact .nil
  | @cons p q ps qs h t ih =>
    obtain ⟨h1,h2⟩:=h
    rw [List.filter_cons,List.filter_cons]
    by_cases e:p.1=k
    . have a:¬ decide (p.1 ≠ k)=true:=by simp [e]
      have b:¬ decide (q.1 ≠ k)=true:=by simp [h1.symm.trans e]
      rw [if_neg a,if_neg b]; exact ih
    . have e':¬ q.1=k:=fun z=>e (h1.trans z)
      have a:decide (p.1 ≠ k)=true:=by simp [e]
      have b:decide (q.1 ≠ k)=true:=by simp [e']
      rw [if_pos a,if_pos b]; exact .cons ⟨h1,h2⟩ ih
theorem KV.keys {kvs:List (κ × V)} {vs:List (κ × Value)} (r:KV kvs vs):kvs.map (·.1)=vs.map (·.1):=by
  unfold KV at r
  induction r with
  | nil=>rfl
  | cons h t ih=>rw [List.map_cons,List.map_cons,ih,h.1]
theorem KV.length {kvs:List (κ × V)} {vs:List (κ × Value)} (r:KV kvs vs):kvs.length=vs.length:=Paired.length r
end
theorem Z9I {P:Program} {w:World} {k:Key} {u:Value} (r:RelV (kV k) u):(Z1U P w).is k u=true:=by
  cases k with
  | inl i=>obtain ⟨t,e⟩:=(show ∃ t,u=Value.int i t from r); subst e; exact Z8i P w i t
  | inr x=>obtain ⟨t,e⟩:=(show ∃ t,u=Value.str x t from r); subst e; exact Z8h P w x t
theorem Z7H {P:Program} {w:World}:∀ {ks:List Key} {us:List Value},Vals (ks.map kV) us -> ItemsAre (Z1U P w) ks us
  | [],_,r=>by rw [List.map_nil] at r; cases r; exact .nil
  | k :: ks,_,r=>by
    rw [List.map_cons] at r
    cases r with
    | cons h t=>exact .cons (Z9I h) (Z7H t)
noncomputable abbrev KT (H:Hp):List (List Key × V) -> List (List Key × Addr × Value) -> Prop:=Paired fun p q=>p.1=q.1 /\ H q.2.1=some (.tup (p.1.map kV)) /\ RelV p.2 q.2.2
theorem KT.val {H:Hp} {kvs:List (List Key × V)} {xs:List (List Key × Addr × Value)} (r:KT H kvs xs) (k:List Key):RelO (valV kvs k) ((atKey xs k).map (·.2)):=by
  induction r with
  | nil=>exact True.intro
  | @cons p q ps qs h t ih =>
    obtain ⟨h1,_,h2⟩:=h
    by_cases e:p.1=k
    . have e':q.1=k:=h1.symm.trans e
      have b:atKey (q :: qs) k=some q.2:=by simp [atKey,List.find?_cons,e']
      rw [Z5c e,b]; exact h2
    . have e':¬ q.1=k:=fun z=>e (h1.trans z)
      have b:atKey (q :: qs) k=atKey qs k:=by simp [atKey,List.find?_cons,e']
      rw [Z5d e,b]; exact ih
theorem KT.repl {H:Hp} {kvs:List (List Key × V)} {xs:List (List Key × Addr × Value)} (r:KT H kvs xs) (k:List Key) {y:V} {u:Value} (ry:RelV y u) :
    KT H (kvs.map fun kv=>if kv.1=k then (kv.1,y) else kv) (xs.map (putAt k u)):=by
  induction r with
  | nil=>exact .nil
  | @cons p q ps qs h t ih =>
    rw [List.map_cons,List.map_cons]
    refine .cons ?_ ih
    obtain ⟨h1,h2,h3⟩:=h
    unfold putAt
    by_cases e:p.1=k
    . rw [if_pos e,if_pos (h1.symm.trans e)]; exact ⟨h1,h2,ry⟩
    . rw [if_neg e,if_neg (fun z=>e (h1.trans z))]; exact ⟨h1,h2,h3⟩
theorem KT.put {H:Hp} {kvs:List (List Key × V)} {xs:List (List Key × Addr × Value)} (r:KT H kvs xs) (k:List Key) {b:Addr} {y:V} {u:Value} (hb:H b=some (.tup (k.map kV))) (ry:RelV y u) :
    KT H (putK kvs k y) (storedH xs k b u):=by
  have e:(kvs.any fun kv=>decide (kv.1=k))=(atKey xs k).isSome:=by
    rw [Z8E,(r.val k).isSome_eq,Option.isSome_map]
  unfold putK storedH
  rw [e]
  by_cases q:(atKey xs k).isSome=true
  . rw [if_pos q,if_pos q]; exact r.repl k ry
  . rw [if_neg q,if_neg q]; exact Paired.snoc r ⟨rfl,hb,ry⟩
theorem KT.keeps {H H':Hp} {kvs:List (List Key × V)} {xs:List (List Key × Addr × Value)} (r:KT H kvs xs) (ht:∀ b ys,H b=some (.tup ys) -> H' b=some (.tup ys)):KT H' kvs xs :=
  Paired.mapP r fun _ _ z=>⟨z.1,ht _ _ z.2.1,z.2.2⟩
section
variable {P:Program} {w:World} {H:Hp} {h:Heap} {a:Addr}
theorem ZeI {u:HO} (ok:HOk P w H h) (e:Rd H a u):ObjOk P w H h a u:=e.ok ok
theorem Zbq {kvs:List (Key × V)} (ok:HOk P w H h) (e:Rd H a (.dK kvs)):kvs.length <= sizeLine /\ (a == sysModules)=false /\ ∃ vs,KV kvs vs /\ h.DictOf (Z1U P w) a vs :=
  show ObjOk P w H h a (.dK kvs) from ZeI ok e
theorem Zek {kvs:List (Key × V)} (ok:HOk P w H h) (e:H a=some (.dK kvs)):kvs.length <= sizeLine /\ (a == sysModules)=false /\ ∃ vs,KV kvs vs /\ h.DictOf (Z1U P w) a vs:=Zbq ok (.inl e)
theorem Z7G {ks:List Key} (ok:HOk P w H h) (e:H a=some (.tup (ks.map kV))):(tupleKind (Z1U P w)).is h ks a:=by
  obtain ⟨_,its,r,o,h1,h2,n,h3⟩:=(show ObjOk P w H h a (.tup (ks.map kV)) from ok a _ e)
  exact ⟨o,its.toArray,n,h1,h2,h3,by simpa using Z7H r⟩
theorem Zbp {kvs:List (List Key × V)} (ok:HOk P w H h) (e:Rd H a (.dT kvs)):kvs.length <= sizeLine /\ (a == sysModules)=false /\
    ∃ xs,KT H kvs xs /\ h.DictOfH (tupleKind (Z1U P w)) a xs:=by
  obtain ⟨z,y,xs,r,o,es,ep,h1,h2,h3,h4,h5⟩:=(show ObjOk P w H h a (.dT kvs) from ZeI ok e)
  refine ⟨z,y,xs,r,o,es,ep,h1,h2,h3,h4,fun x hx=>?_,h5⟩
  have all:∀ {l:List (List Key × V)} {m:List (List Key × Addr × Value)},KT H l m -> ∀ x ∈ m,(tupleKind (Z1U P w)).is h x.1 x.2.1:=by
    intro l m q
    induction q with
    | nil=>intro x hx; exact nomatch hx
    | @cons p q ps qs hq t ih =>
      intro x hx
      rcases List.mem_cons.mp hx with e | hx
      . subst e
        exact Z7G ok (by rw [<- hq.1]; exact hq.2.1)
      . exact ih x hx
  exact all r x hx
theorem Zg6 {kvs:List (List Key × V)} (ok:HOk P w H h) (e:H a=some (.dT kvs)):kvs.length <= sizeLine /\ (a == sysModules)=false /\
    ∃ xs,KT H kvs xs /\ h.DictOfH (tupleKind (Z1U P w)) a xs:=Zbp ok (.inl e)
end
noncomputable def DGet (H:Hp) (a:Addr) (y:V) (r:Option V):Prop :=
  (∃ kvs k,Rd H a (.dK kvs) /\ y=kV k /\ r=valV kvs k) \/ ∃ kvs k b,Rd H a (.dT kvs) /\ y=.ref b /\ H b=some (.tup (k.map kV)) /\ r=valV kvs k
noncomputable def DPut (H:Hp) (a:Addr) (y v:V) (H':Hp):Prop :=
  (∃ kvs k,H a=some (.dK kvs) /\ y=kV k /\ kvs.length < sizeLine /\ H'=upd H a (.dK (putK kvs k v))) \/
  ∃ kvs k b,H a=some (.dT kvs) /\ y=.ref b /\ H b=some (.tup (k.map kV)) /\ kvs.length < sizeLine /\ H'=upd H a (.dT (putK kvs k v))
theorem DGet.k {H:Hp} {a:Addr} {kvs:List (Key × V)} {k:Key} (e:H a=some (.dK kvs)):DGet H a (kV k) (valV kvs k):=.inl ⟨kvs,k,.inl e,rfl,rfl⟩
theorem DGet.t {H:Hp} {a b:Addr} {kvs:List (List Key × V)} {k:List Key} (e:H a=some (.dT kvs)) (eb:H b=some (.tup (k.map kV))):DGet H a (.ref b) (valV kvs k):=.inr ⟨kvs,k,b,.inl e,rfl,eb,rfl⟩
theorem DPut.k {H:Hp} {a:Addr} {kvs:List (Key × V)} {k:Key} {v:V} (e:H a=some (.dK kvs)) (hl:kvs.length < sizeLine):DPut H a (kV k) v (upd H a (.dK (putK kvs k v))):=.inl ⟨kvs,k,e,rfl,hl,rfl⟩
theorem DPut.t {H:Hp} {a b:Addr} {kvs:List (List Key × V)} {k:List Key} {v:V} (e:H a=some (.dT kvs)) (eb:H b=some (.tup (k.map kV))) (hl:kvs.length < sizeLine) :
    DPut H a (.ref b) v (upd H a (.dT (putK kvs k v))):=.inr ⟨kvs,k,b,e,rfl,eb,hl,rfl⟩
section
variable {X:Cx} {pins:List (Addr × Obj)} {σ:St} {H:Hp} {s:Shared} {a:Addr} {y v:V} {u r:Value} {o:Option V} {A:Around} {E:Value -> Shared -> Prop}
theorem Inv.big (I:Inv X pins σ H s):sysModules < s.heap.objs.size:=by
  have h:mainGlobals < s.heap.objs.size:=(I.mod.glob.keeps I.bk).lt
  exact Nat.lt_trans (by decide) h
theorem Zbs {Q:Value -> Shared -> Prop} (hu:A.units + 1 < cLine) (I:Inv X pins σ H s) (g:DGet H a y (some v)) (ry:RelV y u) (h:∀ w' s',Inv X pins σ H s' -> RelV v w' -> Q w' s') :
    wpAny (model X.prog X.w) A (getItem (.ref a) u) Q E s:=by
  rcases g with ⟨kvs,k,e,ey,l⟩ | ⟨kvs,k,b,e,ey,eb,l⟩
  . subst ey
    obtain ⟨z,hd,vs,rel,dd⟩:=Zbq I.hok e
    obtain ⟨w',hw,rw'⟩:=RelO.some_of (v:=v) (o:=valueAt vs k) (by rw [l]; exact rel.val k)
    exact wpAny_getItem_of (Z9I ry) dd.mapOf hw (h w' _ (I.tok _) rw')
  . subst ey
    cases (show u=Value.ref b from ry)
    obtain ⟨z,hd,xs,rel,dd⟩:=Zbp I.hok e
    obtain ⟨w',hw,rw'⟩:=RelO.some_of (v:=v) (o:=(atKey xs k).map (·.2)) (by rw [l]; exact rel.val k)
    obtain ⟨p,hp,hp2⟩:=Option.map_eq_some_iff.mp hw
    refine wpAny_getItem_heap (tupleKind_room_in1 hu) (Z7G I.hok eb) dd hp ?_
    rw [hp2]
    exact h w' _ (I.tok _) rw'
theorem d_in {Q:Value -> Shared -> Prop} (hu:A.units + 1 < cLine) (I:Inv X pins σ H s) (g:DGet H a y o) (ry:RelV y u) (h:∀ s',Inv X pins σ H s' -> Q (.bool o.isSome) s') :
    wpAny (model X.prog X.w) A (compareOp .In u (.ref a)) Q E s:=by
  rcases g with ⟨kvs,k,e,ey,l⟩ | ⟨kvs,k,b,e,ey,eb,l⟩
  . subst ey
    obtain ⟨z,hd,vs,rel,dd⟩:=Zbq I.hok e
    refine wpAny_in_of (Z9I ry) hd dd.mapOf ?_
    rw [<- (rel.val k).isSome_eq,<- l]
    exact h _ (I.tok _)
  . subst ey
    cases (show u=Value.ref b from ry)
    obtain ⟨z,hd,xs,rel,dd⟩:=Zbp I.hok e
    refine wpAny_in_heap (tupleKind_room_in1 hu) (Z7G I.hok eb) hd dd ?_
    have q:=(rel.val k).isSome_eq
    rw [Option.isSome_map] at q
    rw [<- q,<- l]
    exact h _ (I.tok _)
theorem Zel {Q:Value -> Shared -> Prop} (hu:A.units + 1 < cLine) (I:Inv X pins σ H s) (g:DGet H a y o) (ry:RelV y u) (h:∀ s',Inv X pins σ H s' -> Q (.bool (!o.isSome)) s') :
    wpAny (model X.prog X.w) A (compareOp .NotIn u (.ref a)) Q E s:=by
  rcases g with ⟨kvs,k,e,ey,l⟩ | ⟨kvs,k,b,e,ey,eb,l⟩
  . subst ey
    obtain ⟨z,hd,vs,rel,dd⟩:=Zbq I.hok e
    refine wpAny_notIn_of (Z9I ry) hd dd.mapOf ?_
    rw [<- (rel.val k).isSome_eq,<- l]
    exact h _ (I.tok _)
  . subst ey
    cases (show u=Value.ref b from ry)
    obtain ⟨z,hd,xs,rel,dd⟩:=Zbp I.hok e
    refine wpAny_notIn_heap (tupleKind_room_in1 hu) (Z7G I.hok eb) hd dd ?_
    have q:=(rel.val k).isSome_eq
    rw [Option.isSome_map] at q
    rw [<- q,<- l]
    exact h _ (I.tok _)
theorem Z8s {h':Heap} {t':Nat} {ob:HO} (I:Inv X pins σ H s) (mu:Mut (H a)) (hs:Heap.SameBut a s.heap h') (he:∃ q,h'.get? a=some q) (new:ObjOk X.prog X.w (upd H a ob) h' a ob) :
    Inv X pins σ (upd H a ob) { s with heap:=h',toks:=t' } :=
  I.write (x:=a) (e:=a) mu (.inl rfl) (fun b q hb z=>(hs.2 b hb).trans z) he new
theorem Zda {P:Program} {w:World} {H':Hp} {h':Heap} {kvs:List (Key × V)} {vs:List (Key × Value)} (z:kvs.length <= sizeLine) (hd:(a == sysModules)=false) (rel:KV kvs vs) (dd:h'.DictOf (Z1U P w) a vs) :
    ObjOk P w H' h' a (.dK kvs):=⟨z,hd,vs,rel,dd⟩
theorem Zbr {H':Hp} {Q:Unit -> Shared -> Prop} (hu:A.units + 1 < cLine) (I:Inv X pins σ H s) (g:DPut H a y v H') (ry:RelV y u) (rv:RelV v r) (h:∀ s',Inv X pins σ H' s' -> Q () s') :
    wpAny (model X.prog X.w) A (setItem (.ref a) u r) Q E s:=by
  rcases g with ⟨kvs,k,e,ey,l,eH⟩ | ⟨kvs,k,b,e,ey,eb,l,eH⟩
  . subst ey eH
    obtain ⟨z,hd,vs,rel,dd⟩:=Zek I.hok e
    have hz:vs.length <= sizeLine:=by rw [<- rel.length]; exact z
    have hl:(putK kvs k v).length <= sizeLine:=by have:=Z4d kvs k v; omega
    refine wpAny_setItem_pairs (hsz:=hz) (Z9I ry) dd fun h' dd' hs=>h _ ?_
    have he:∃ q,h'.get? a=some q:=let ⟨q,_,_,hq,_⟩:=dd'; ⟨q,hq⟩
    exact Z8s I (by rw [e]; exact True.intro) hs he (Zda hl hd (rel.put k rv) dd')
  . subst ey eH
    cases (show u=Value.ref b from ry)
    obtain ⟨z,hd,xs,rel,dd⟩:=Zg6 I.hok e
    have hz:xs.length <= sizeLine:=by rw [<- Paired.length rel]; exact z
    have hl:(putK kvs k v).length <= sizeLine:=by have:=Z4d kvs k v; omega
    refine wpAny_setItem_heap (hsz:=hz) (tupleKind_room_in1 hu) (Z7G I.hok eb) dd fun h' dd' hs=>h _ ?_
    obtain ⟨q,es,ep,hq,h2,h3,h4,_,h5⟩:=dd'
    refine Z8s I (by rw [e]; exact True.intro) hs ⟨q,hq⟩ ⟨hl,hd,_,(rel.put k eb rv).keeps fun c ys ec=>?_,q,es,ep,hq,h2,h3,h4,h5⟩
    rw [Z0u (ZfX ec e (fun z=>nomatch z))]
    exact ec
end
section
variable {X:Cx} {pins:List (Addr × Obj)} {σ:St} {H:Hp} {s:Shared} {a:Addr} {kvs:List (Key × V)} {k:Key} {u:Value} {A:Around} {E:Value -> Shared -> Prop}
end
noncomputable def NoSl (i:Expr):Prop:=∀ ov iv,subscripted i false ov iv=operate [ov,iv] (getItem ov iv)
theorem Zdl {prog:Program} {w:World} {A:Around} {E:Value -> Shared -> Prop} {s:Shared} {env:Env} {value slice:Expr} {pos:Pos} {T id:String} {Q:Value -> Shared -> Prop}
    (hl:typeLookup (.type T) "__getitem__" = pure (some (.builtin id))) (hs:NoSl slice)
    (h:wpAny (model prog w) A (eval value env) (fun o s₁=>wpAny (model prog w) A (eval slice env) (fun i s₂=>s₂.TypeIs o T /\ wpAny (model prog w) A (getItem o i) Q E s₂) E s₁) E s) :
    wpAny (model prog w) A (eval (.Subscript value slice pos) env) Q E s:=by
  refine Subscript_ (wpAny_mono h (fun o s₁ h₁=>wpAny_mono h₁ (fun i s₂ h₂=>?_) fun _ _ x=>x) fun _ _ x=>x)
  obtain ⟨hT,h₂⟩:=h₂
  unfold subscriptTail
  refine wpAny_bind ?_
  rw [getitemInPython_of_ne hT.not_modules]
  refine wpAny_bind (wpAny_specialOf hT hl ?_)
  have fin:wpAny (model prog w) A (subscripted slice false o i) (fun r s₃=>wpAny (model prog w) A (letTemporaryGo value o r >>= fun _=>pure r) Q E s₃) E s₂:=by
    rw [hs o i]
    exact wpAny_operating (wpAny_mono h₂ (fun r s₃ h₃=>wpAny_bind (wpAny_letTemporaryGo (wpAny_pure h₃))) fun _ _ x=>x)
  first
    | exact wpAny_pure (wpAny_bind fin)
    | exact wpAny_bind (wpAny_pure (wpAny_bind fin))
    | exact wpAny_bind fin
theorem Z8r {X:Cx} {pins:List (Addr × Obj)} {σ:St} {H:Hp} {s:Shared} {a:Addr} {y:V} {o:Option V} (I:Inv X pins σ H s) (g:DGet H a y o):s.TypeIs (.ref a) "dict":=by
  rcases g with ⟨kvs,k,e,_,_⟩ | ⟨kvs,k,b,e,_,_,_⟩
  . obtain ⟨_,_,vs,_,dd⟩:=Zbq I.hok e
    exact dd.typeIs
  . obtain ⟨_,_,xs,_,dd⟩:=Zbp I.hok e
    exact dd.typeIs
noncomputable def ZfF (td ty:TE):TE:=fun σ H Q=>td σ H fun x H1=>ty σ H1 fun y H2=>∃ a v,x=.ref a /\ DGet H2 a y (some v) /\ Q v H2
noncomputable def tDIn (ty td:TE):TE:=fun σ H Q=>ty σ H fun y H1=>td σ H1 fun x H2=>∃ a o,x=.ref a /\ DGet H2 a y o /\ Q (.bl o.isSome) H2
noncomputable def Zdj (ty td:TE):TE:=fun σ H Q=>ty σ H fun y H1=>td σ H1 fun x H2=>∃ a o,x=.ref a /\ DGet H2 a y o /\ Q (.bl (!o.isSome)) H2
noncomputable def ZfH (td ty tv:TE):TS:=fun D σ H=>tv σ H fun v H1=>td σ H1 fun x H2=>ty σ H2 fun y H3=>∃ a H4,x=.ref a /\ DPut H3 a y v H4 /\ D.nx σ H4
section
variable {X:Cx} {o i e value:Expr} {pos pos' tpos:Pos} {td ty tv:TE}
theorem pe_dget (hu:X.A.units + 1 < cLine) (ho:PE X o td) (hi:PE X i ty) (hs:NoSl i):PE X (.Subscript o i pos) (ZfF td ty):=by
  intro pins s σ H Q I h
  refine Zdl PySem.F.slot_dict_getitem.lookup hs (thn (ho pins s σ H _ I h) fun u s1 ⟨x,H1,I1,rx,q1⟩=>thn (hi pins s1 σ H1 _ I1 q1) fun iv s2 ⟨y,H2,I2,ry,a,v,ex,g,q2⟩=>?_)
  subst ex
  obtain rfl:u=Value.ref a:=rx
  exact ⟨Z8r I2 g,Zbs hu I2 g ry fun w' s3 I3 rw'=>⟨v,H2,I3,rw',q2⟩⟩
theorem Zf3 (hu:X.A.units + 1 < cLine) (hi:PE X i ty) (ho:PE X o td):PC X .In i o (tDIn ty td):=by
  intro pins s σ H Q I h
  refine thn (hi pins s σ H _ I h) fun iv s1 ⟨y,H1,I1,ry,q1⟩=>thn (ho pins s1 σ H1 _ I1 q1) fun u s2 ⟨x,H2,I2,rx,a,ov,ex,g,q2⟩=>?_
  subst ex
  obtain rfl:u=Value.ref a:=rx
  exact d_in hu I2 g ry fun s3 I3=>⟨.bl ov.isSome,H2,I3,rfl,q2⟩
theorem ZaF (hu:X.A.units + 1 < cLine) (hi:PE X i ty) (ho:PE X o td):PC X .NotIn i o (Zdj ty td):=by
  intro pins s σ H Q I h
  refine thn (hi pins s σ H _ I h) fun iv s1 ⟨y,H1,I1,ry,q1⟩=>thn (ho pins s1 σ H1 _ I1 q1) fun u s2 ⟨x,H2,I2,rx,a,ov,ex,g,q2⟩=>?_
  subst ex
  obtain rfl:u=Value.ref a:=rx
  exact Zel hu I2 g ry fun s3 I3=>⟨.bl (!ov.isSome),H2,I3,rfl,q2⟩
theorem ZdJ (hu:X.A.units + 1 < cLine) (ho:PE X o td) (hi:PE X i ty) (hv:PE X value tv) (hs:swapsWith value (some (.Subscript o i pos')) pos.line X.env=pure false) :
    PS X (.Assign [.Subscript o i pos'] value pos) (ZfH td ty tv):=by
  intro pins s σ H D I h
  refine wpAny_Assign_Subscript (thn (hv pins s σ H _ I h) fun r s1 ⟨v,H1,I1,rv,q1⟩=>thn (ho pins s1 σ H1 _ I1 q1) fun u s2 ⟨x,H2,I2,rx,q2⟩=>thn (hi pins s2 σ H2 _ I2 q2) fun iv s3 ⟨y,H3,I3,ry,a,H4,ex,g,q3⟩=>?_) hs
  subst ex
  obtain rfl:u=Value.ref a:=rx
  exact Zbr hu I3 g ry rv fun s4 I4=>⟨σ,H4,I4,q3⟩
end
theorem Z99 {P:Program} {w:World} {H:Hp} (h:Heap) (hb:sysModules < h.objs.size):ObjOk P w H (h.push { cls:=.type "dict",data:=.dict #[] }) h.objs.size (.dK []) :=
  ⟨Nat.zero_le _,beq_eq_false_iff_ne.mpr (Ne.symm (Nat.ne_of_lt hb)),[],.nil,Heap.DictOf.new h⟩
noncomputable def ZeA:TE:=fun _ H Q=>∀ p,H p=none -> Q (.ref p) (upd H p (.dK []))
section
variable {X:Cx} {pos:Pos}
theorem pe_dnewK:PE X (.Dict [] [] pos) ZeA:=fun pins s σ H Q I h =>
  wpAny_Dict_empty ⟨.ref s.heap.objs.size,_,I.laid (a:=s.heap.objs.size) (o:=.dK []) (t':=s.toks) (fun _ _ q=>Heap.get?_push_of_some _ q) (Nat.le_refl _) (Z99 s.heap I.big),rfl,h _ (I.hok.fresh (Nat.le_refl _))⟩
end
noncomputable def Z8F:List (TE × TE) -> St -> Hp -> (List (V × V) -> Hp -> Prop) -> Prop
  | [],_,H,Q=>Q [] H
  | (tk,tv) :: r,σ,H,Q=>tk σ H fun x H1=>tv σ H1 fun y H2=>Z8F r σ H2 fun ps H3=>Q ((x,y) :: ps) H3
noncomputable abbrev VV:List (V × V) -> List (Value × Value) -> Prop:=Paired fun p q=>RelV p.1 q.1 /\ RelV p.2 q.2
noncomputable def PPs (X:Cx) (pos:Pos) (keys:List (Option Expr)) (values:List Expr) (trs:List (TE × TE)):Prop :=
  ∀ (pins:List (Addr × Obj)) (s:Shared) (σ:St) (H:Hp) (Q:List (V × V) -> Hp -> Prop),Inv X pins σ H s -> Z8F trs σ H Q ->
    wpAny (model X.prog X.w) X.A (evalPairs (pairTrees keys values X.env pos)) (fun vs s'=>∃ ps H',Inv X pins σ H' s' /\ VV ps vs /\ Q ps H') X.xe s
theorem ZdK {X:Cx} {pos:Pos}:PPs X pos [] [] []:=fun pins s σ H Q I h=>pairTrees_nil_walk ⟨[],H,I,.nil,h⟩
theorem Zc7 {X:Cx} {pos:Pos} {k v:Expr} {ks:List (Option Expr)} {vs:List Expr} {tk tv:TE} {trs:List (TE × TE)} (hk:PE X k tk) (hv:PE X v tv) (hr:PPs X pos ks vs trs) :
    PPs X pos (some k :: ks) (v :: vs) ((tk,tv) :: trs):=fun pins s σ H Q I h =>
  pairTrees_cons_walk (thn (hk pins s σ H _ I h) fun u s1 ⟨x,H1,I1,rx,q1⟩=>thn (hv pins s1 σ H1 _ I1 q1) fun w2 s2 ⟨y,H2,I2,ry,q2⟩ =>
    thn (hr pins s2 σ H2 _ I2 q2) fun ws s3 ⟨ps,H3,I3,rel,q3⟩=>⟨(x,y) :: ps,H3,I3,.cons ⟨rx,ry⟩ rel,q3⟩)
noncomputable def Z4Z (kvs more:List (Key × V)):List (Key × V):=more.foldl (fun acc kv=>putK acc kv.1 kv.2) kvs
theorem KV.merge:∀ {more:List (Key × V)} {rs:List (Key × Value)} {kvs:List (Key × V)} {vs:List (Key × Value)},KV more rs -> KV kvs vs -> KV (Z4Z kvs more) (merged vs rs):=by
  intro more rs kvs vs r
  unfold KV at r
  induction r generalizing kvs vs with
  | nil=>intro q; exact q
  | @cons p q ps qs h t ih =>
    intro r0
    have e:KV (putK kvs p.1 p.2) (stored vs q.1 q.2):=by
      have:=r0.put p.1 h.2
      rw [<- h.1]; exact this
    exact ih e
theorem Z4w:∀ (more kvs:List (Key × V)),(Z4Z kvs more).length <= kvs.length + more.length
  | [],kvs=>by show kvs.length <= kvs.length + 0; omega
  | p :: r,kvs=>by
    have h1:=Z4w r (putK kvs p.1 p.2)
    have h2:=Z4d kvs p.1 p.2
    show (Z4Z (putK kvs p.1 p.2) r).length <= _
    rw [List.length_cons]; omega
theorem Z6s {P:Program} {w:World}:∀ {kvs:List (Key × V)} {ws:List (Value × Value)},VV (kvs.map fun kv=>(kV kv.1,kv.2)) ws -> ∃ rs,Carries (Z1U P w) ws rs /\ KV kvs rs
  | [],_,r=>by rw [List.map_nil] at r; cases r; exact ⟨[],True.intro,.nil⟩
  | p :: kvs,_,r=>by
    rw [List.map_cons] at r
    cases r with
    | @cons a b as bs h t =>
      obtain ⟨rs,c,q⟩:=Z6s (P:=P) (w:=w) t
      obtain ⟨b1,b2⟩:=b
      exact ⟨(p.1,b2) :: rs,⟨Z9I h.1,rfl,c⟩,.cons ⟨rfl,h.2⟩ q⟩
noncomputable def ZfE (trs:List (TE × TE)):TE:=fun σ H Q=>∀ p,H p=none -> Z8F trs σ (upd H p (.dK [])) fun ps H2=>H2 p=some (.dK []) /\ ∃ kvs:List (Key × V),ps=kvs.map (fun kv=>(kV kv.1,kv.2)) /\ kvs.length <= 15 /\ Q (.ref p) (upd H2 p (.dK (Z4Z [] kvs)))
theorem ZdS {X:Cx} {pos:Pos} {keys:List (Option Expr)} {values:List Expr} {trs:List (TE × TE)} (h:PPs X pos keys values trs) (hall:keys.all (·.isSome)=true) (hl:keys.length=values.length) (h0:keys ≠ [])
    (h15:keys.length <= 15):PE X (.Dict keys values pos) (ZfE trs):=by
  intro pins s σ H Q I q
  have hn:=I.hok.fresh (Nat.le_refl s.heap.objs.size)
  have I1:=I.laid (a:=s.heap.objs.size) (o:=.dK []) (h':=s.heap.push { cls:=.type "dict",data:=.dict #[] }) (t':=s.toks) (fun _ _ q=>Heap.get?_push_of_some _ q) (Nat.le_refl _) (Z99 s.heap I.big)
  refine wpAny_Dict_walk (knd:=Z1U X.prog X.w) hall hl h0 h15 (thn (h pins _ σ _ _ I1 (q _ hn)) fun ws s2 ⟨ps,H2,I2,rel,e,kvs,ep,lk,q2⟩=>?_)
  subst ep
  obtain ⟨rs,c,rk⟩:=Z6s (P:=X.prog) (w:=X.w) rel
  obtain ⟨z,hd,vs0,r0,dd⟩:=Zek I2.hok e
  cases r0
  refine ⟨rs,c,dd,fun h' dd' hs=>⟨.ref s.heap.objs.size,_,?_,rfl,q2⟩⟩
  have hz:(Z4Z [] kvs).length <= sizeLine:=by
    have h1:=Z4w kvs []
    rw [List.length_nil] at h1
    rw [sizeLine_eq]; omega
  have he:∃ q,h'.get? s.heap.objs.size=some q:=let ⟨q,_,_,hq,_⟩:=dd'; ⟨q,hq⟩
  exact Z8s I2 (by rw [e]; exact True.intro) hs he (Zda hz hd (rk.merge .nil) dd')
structure M1 (X:Cx) (o:Expr) (m:Str) (apos:Pos) (e:Expr) (cpos:Pos):Prop where
  base:attributeBase o m X.env (eval o X.env)=eval o X.env
  few:((backTo cpos (starEach [e] X.env)).all (fun x=>!x.1) && (backToKw cpos (keywordEach [] X.env)).all (fun x=>x.1.isSome)
    && decide (([e]:List Expr).length + ([]:List Keyword).length + (if ([]:List Keyword).isEmpty then 0 else 1) < 30))=true
  line:(apos.endLine == cpos.line)=true
  trees:backTo cpos (starEach [e] X.env)=[(false,eval e X.env)]
structure M2 (X:Cx) (o:Expr) (m:Str) (apos:Pos) (e f:Expr) (cpos:Pos):Prop where
  base:attributeBase o m X.env (eval o X.env)=eval o X.env
  few:((backTo cpos (starEach [e,f] X.env)).all (fun x=>!x.1) && (backToKw cpos (keywordEach [] X.env)).all (fun x=>x.1.isSome)
    && decide (([e,f]:List Expr).length + ([]:List Keyword).length + (if ([]:List Keyword).isEmpty then 0 else 1) < 30))=true
  line:(apos.endLine == cpos.line)=true
  trees:backTo cpos (starEach [e,f] X.env)=[(false,eval e X.env),(false,eval f X.env)]
section
variable {X:Cx} {pins:List (Addr × Obj)} {σ:St} {H:Hp} {s:Shared} {a:Addr} {y d:V} {u r:Value} {o:Option V} {A:Around} {E:Value -> Shared -> Prop}
end
section
variable {X:Cx} {o e f:Expr} {apos cpos:Pos} {td ty tx:TE}
end
section
variable {X:Cx} {pins:List (Addr × Obj)} {σ:St} {H:Hp} {s:Shared} {a:Addr} {kvs:List (Key × V)} {A:Around} {E:Value -> Shared -> Prop}
end
section
variable {X:Cx} {pins:List (Addr × Obj)} {σ:St} {H:Hp} {s:Shared} {a:Addr} {y:V} {u:Value} {A:Around} {E:Value -> Shared -> Prop}
end
section
variable {prog:Program} {w:World} {A:Around} {E:Value -> Shared -> Prop} {R:Result -> Shared -> Prop} {s:Shared}
theorem Z7T {elt target iter:Expr} {ifs:List Expr} {scope:Scope} {pos:Pos} {it acc:Value} {env:Env} (I:Nat -> Shared -> Prop)
    (turn:∀ n s,I n s -> wpAny (model prog w) A (pyNext it) (fun r s₁=>match r with
      | none=>R (.ok .next) s₁
      | some v=>wpAny (model prog w) A (letOwnedTupleGo target it v) (fun _ s₀=>wpAny (model prog w) A (assign target env v) (fun _ s₂ =>
          wpAny (model prog w) A (forIn ifs true fun c r=>if r=true then do let ok <- isTrue c env (eval c env); pure (ForInStep.yield ok) else pure (ForInStep.yield r)) (fun ok s₃ =>
            if ok=true then wpAny (model prog w) A (eval elt env) (fun x s₄ =>
              wpAny (model prog w) A (call (.builtin "list.append") [acc,x]) (fun _ s₅=>∃ m,m < n /\ I m s₅) (notedBy (model prog w) A env fun e s'=>R (.error e) s') s₄) (notedBy (model prog w) A env fun e s'=>R (.error e) s') s₃
            else ∃ m,m < n /\ I m s₃) (notedBy (model prog w) A env fun e s'=>R (.error e) s') s₂) (notedBy (model prog w) A env fun e s'=>R (.error e) s') s₀)
          (notedBy (model prog w) A env fun e s'=>R (.error e) s') s₁) (notedBy (model prog w) A env fun e s'=>R (.error e) s') s)
    (n:Nat) (h:I n s) :
    codeAny (model prog w) A (.compLoop (.ListComp elt [⟨target,iter,ifs,0⟩] scope pos) 0 it acc env) R s:=by
  refine codeAny_loop rfl I (fun n s hI=>?_) n h
  show wpAny _ A ((compTurn (.ListComp elt [⟨target,iter,ifs,0⟩] scope pos) 0 it acc env).onRaise (fun x=>do noteFrame x env; theTreesLotGoes x)) _ _ s
  refine wpAny_noted ?_
  rw [compTurn_list]
  refine wpAny_bind (wpAny_standAt (wpAny_bind (wpAny_mono (turn n s hI) (fun r s₁ h₁=>?_) fun _ _ h'=>h')))
  cases r with
  | none=>exact wpAny_pure h₁
  | some v =>
    refine wpAny_bind (wpAny_mono h₁ (fun _ s₀ h₀=>?_) fun _ _ h'=>h')
    refine wpAny_bind (wpAny_mono h₀ (fun _ s₂ h₂=>wpAny_bind (wpAny_mono h₂ (fun ok s₃ h₃=>?_) fun _ _ h'=>h')) fun _ _ h'=>h')
    cases ok with
    | false=>exact wpAny_pure ⟨rfl,h₃⟩
    | true =>
      exact wpAny_bind (wpAny_bind (wpAny_mono h₃ (fun x s₄ h₄=>wpAny_bind (wpAny_mono h₄ (fun _ s₅ h₅=>wpAny_pure (wpAny_pure ⟨rfl,h₅⟩)) fun _ _ h'=>h')) fun _ _ h'=>h'))
end
theorem Z4T {env:Env}:∀ (names:List (Str × NameKind)) (acc:List (Str × Addr)),(∀ n,(n,NameKind.free) ∈ names -> ∃ c,env.cells.lookup n=some c) ->
    (∀ n c,acc.lookup n=some c -> env.cells.lookup n=some c) ->
    ∃ cl,(forIn names acc fun (x:Str × NameKind) cs=>(if (x.2 == NameKind.free)=true then (cellOf env x.1 >>= fun a=>pure (ForInStep.yield ((x.1,a) :: cs))) else pure (ForInStep.yield cs):Sem (ForInStep (List (Str × Addr)))))=pure cl /\
      (∀ n c,cl.lookup n=some c -> env.cells.lookup n=some c) /\ (∀ n,(n,NameKind.free) ∈ names -> ∃ c,cl.lookup n=some c) /\ (∀ n c,acc.lookup n=some c -> ∃ c',cl.lookup n=some c')
  | [],acc,_,h2=>⟨acc,rfl,h2,fun n h=>(nomatch h),fun n c h=>⟨c,h⟩⟩
  | (n,k) :: r,acc,h1,h2=>by
    by_cases hk:k=.free
    . subst hk
      obtain ⟨c,hc⟩:=h1 n List.mem_cons_self
      have h2':∀ m c',((n,c) :: acc).lookup m=some c' -> env.cells.lookup m=some c':=by
        intro m c' e
        rw [List.lookup_cons] at e
        cases q:m == n with
        | true =>
          rw [q] at e
          have:=eq_of_beq q
          subst this
          cases e
          exact hc
        | false =>
          rw [q] at e
          exact h2 m c' e
      obtain ⟨cl,e,g1,g2,g3⟩:=Z4T r ((n,c) :: acc) (fun m hm=>h1 m (List.mem_cons_of_mem _ hm)) h2'
      refine ⟨cl,?_,g1,?_,?_⟩
      . rw [List.forIn_cons]
        have e1:cellOf env n=pure c:=by unfold cellOf; rw [hc]
        show ((if (NameKind.free == NameKind.free)=true then _ else _) >>= _)=_
        rw [if_pos (by rfl),e1]
        exact e
      . intro m hm
        rcases List.mem_cons.mp hm with z | z
        . cases z
          exact g3 n c (by simp [List.lookup_cons])
        . exact g2 m z
      . intro m c' hm
        cases q:m == n with
        | true=>exact g3 m c (by rw [List.lookup_cons,q])
        | false=>exact g3 m c' (by rw [List.lookup_cons,q]; exact hm)
    . obtain ⟨cl,e,g1,g2,g3⟩:=Z4T r acc (fun m hm=>h1 m (List.mem_cons_of_mem _ hm)) h2
      refine ⟨cl,?_,g1,?_,g3⟩
      . rw [List.forIn_cons]
        have:(k == NameKind.free)=false:=by simpa using hk
        show ((if (k == NameKind.free)=true then _ else _) >>= _)=_
        rw [this,if_neg (by decide)]
        exact e
      . intro m hm
        rcases List.mem_cons.mp hm with z | z
        . cases z; exact absurd rfl hk
        . exact g2 m z
theorem Z6r {scope:Scope} {env:Env} (h:∀ n,(n,NameKind.free) ∈ scope.names -> ∃ c,env.cells.lookup n=some c) :
    ∃ cl,closureFor scope env=pure cl /\ (∀ n c,cl.lookup n=some c -> env.cells.lookup n=some c) /\ (∀ n,(n,NameKind.free) ∈ scope.names -> ∃ c,cl.lookup n=some c):=by
  obtain ⟨cl,e,g1,g2,_⟩:=Z4T (env:=env) scope.names [] h (fun n c q=>(nomatch q))
  refine ⟨cl,?_,g1,g2⟩
  unfold closureFor
  first
    | (rw [show (forIn scope.names ([]:List (Str × Addr)) _:Sem (List (Str × Addr)))=pure cl from e]; rfl)
    | (simp only [bind_pure]; exact e)
    | exact e
noncomputable def Z2R (X:Cx) (N':List Str) (scope:Scope) (cl:List (Str × Addr)) (C:Addr) (s₀:Shared) (H₀:Hp) (ex:List Addr) (pins:List (Addr × Obj)):Cx :=
  { X with N:=N',s₀:=s₀,H₀:=H₀,env:=compEnvC scope cl C X.env,outer:=X.stack,stack:=X.stack,ex:=ex,fn:=fun _=>false,pn:=X.pn ++ pins,xe:=fun _ _=>False }
noncomputable def Z31 (osc:Scope) (N:List Str) (scope:Scope) (fr:List Nat):Bool :=
  scope.kind == .function && scope.names.all (fun y=>y.2 != .cell) && scope.names.all (fun y=>y.2 != .free || (osc.names.lookup y.1 == some .cell || osc.names.lookup y.1 == some .free)) &&
  fr.all (fun j=>match N[j]? with | some x=>scope.names.lookup x == some .free | none=>false) && scope.names.all (fun y=>y.2 != .local || scope.names.lookup y.1 == some .local)
theorem Z2M {env:Env}:∀ {names:List (Str × NameKind)} {x:Str},names.lookup x=some .free ->
    (names.map fun (n,k)=>if (k == NameKind.free && env.scope.kind == .function && env.kindOf n == some .cell) then (n,NameKind.cell) else (n,k)).lookup x=some .cell \/
    (names.map fun (n,k)=>if (k == NameKind.free && env.scope.kind == .function && env.kindOf n == some .cell) then (n,NameKind.cell) else (n,k)).lookup x=some .free
  | [],_,h=>by simp at h
  | (n,k) :: r,x,h=>by
    have ih:=@Z2M env r x
    show List.lookup x ((if (k == NameKind.free && env.scope.kind == .function && env.kindOf n == some .cell)=true then (n,NameKind.cell) else (n,k)) :: _)=_ \/ List.lookup x ((if (k == NameKind.free && env.scope.kind == .function && env.kindOf n == some .cell)=true then (n,NameKind.cell) else (n,k)) :: _)=_
    cases hx:x == n with
    | true =>
      simp only [List.lookup_cons,hx] at h
      cases h
      by_cases hc:(NameKind.free == NameKind.free && env.scope.kind == .function && env.kindOf n == some .cell)=true
      . rw [if_pos hc]; left; simp only [List.lookup_cons,hx]
      . rw [if_neg hc]; right; simp only [List.lookup_cons,hx]
    | false =>
      simp only [List.lookup_cons,hx] at h
      by_cases hc:(k == NameKind.free && env.scope.kind == .function && env.kindOf n == some .cell)=true
      . rw [if_pos hc]; simp only [List.lookup_cons,hx]; exact ih h
      . rw [if_neg hc]; simp only [List.lookup_cons,hx]; exact ih h
theorem Z5p {env:Env} {names:List (Str × NameKind)} (hc:∀ y ∈ names,y.2 ≠ .cell) {x:Str} {k':NameKind} (hk:k'=.cell \/ k'=.free)
    (h:(names.map fun (n,k)=>if (k == NameKind.free && env.scope.kind == .function && env.kindOf n == some .cell) then (n,NameKind.cell) else (n,k)).lookup x=some k'):(x,NameKind.free) ∈ names:=by
  have h1:=PySem.mem_of_lookup h
  obtain ⟨⟨n,k⟩,hm,e⟩:=List.mem_map.mp h1
  by_cases q:(k == NameKind.free && env.scope.kind == .function && env.kindOf n == some .cell)=true
  . simp only [q] at e
    simp at e
    obtain ⟨rfl,_⟩:=e
    simp at q
    obtain ⟨⟨rfl,_⟩,_⟩:=q
    exact hm
  . simp only [q] at e
    simp at e
    obtain ⟨rfl,rfl⟩:=e
    rcases hk with z | z
    . exact absurd z (hc _ hm)
    . subst z; exact hm
section
variable {X:Cx} {pins:List (Addr × Obj)} {σ:St} {H:Hp} {s:Shared}
noncomputable def stIn (k:Nat) (fr:List Nat) (σ:St):St:=List.replicate k none ++ fr.map fun j=>(σ[j]?).join
noncomputable def Z30 (tgs:List Str) (fr:List Nat) (N:List Str):List Str:=tgs ++ fr.map fun j=>(N[j]?).getD Str.empty
theorem Zcv {scope:Scope} {tgs:List Str} {fr:List Nat} {cl:List (Str × Addr)} {h':Heap} {tk:Nat} {ex:List Addr} (I:Inv X pins σ H s)
    (chk:Z31 X.env.scope X.N scope fr=true)
    (hcl1:∀ n c,cl.lookup n=some c -> X.env.cells.lookup n=some c) (hcl2:∀ n,(n,NameKind.free) ∈ scope.names -> ∃ c,cl.lookup n=some c)
    (hns:h'.Ns s.heap.objs.size (fun _=>none)) (hkeep:∀ b o,s.heap.get? b=some o -> h'.get? b=some o)
    (hex:∀ b ∈ ex,FpOk X pins H b /\ b < s.heap.objs.size) :
    Inv (Z2R X (Z30 tgs fr X.N) scope cl s.heap.objs.size s H ex pins) [] (stIn tgs.length fr σ) H { s with heap:=h',toks:=tk }:=by
  simp only [Z31,Bool.and_eq_true,List.all_eq_true] at chk
  obtain ⟨⟨⟨⟨c1,c2⟩,c3⟩,c4⟩,c5⟩:=chk
  have hkind:scope.kind=.function:=by simpa using c1
  have hcell:∀ y ∈ scope.names,y.2 ≠ .cell:=fun y hy=>by simpa using c2 y hy
  have lt:∀ b o,s.heap.get? b=some o -> b < s.heap.objs.size:=fun b o e=>Heap.lt_size e
  have nofr:∀ b ∈ frs X.stack,b ∈ X.env.locals :: X.fs:=I.stkSub
  refine ⟨⟨I.ok.mod,hkind,I.ok.glob,I.ok.blt,Nat.le_refl _,fun x y c a b=>I.ok.inj x y c (hcl1 _ _ a) (hcl1 _ _ b),fun x hx=>?_,fun x c hf _=>?_,I.ok.hd,I.ok.frames,.inl rfl,fun b hb=>⟨?_,fun x c e=>(hex b hb).1.2.2.2.2.1 x c (hcl1 _ _ e)⟩,
      I.bs,Nat.le_trans I.ok.bsz I.sz,fun b o e hb=>?_,fun b hb hf=>?_,I.stack,I.stkFree⟩,
    rfl,I.bare,Un.kept hkeep,⟨fun _=>none,hns,fun i x v h1 h2 h3=>?_⟩,fun x c e=>?_,I.fresh,fun x c e=>I.freeC x c (hcl1 _ _ e),fun p hp=>?_,I.hok.kept hkeep,?_⟩
  . -- has
    have hx:(relabel scope X.env).names.lookup x=some .cell \/ (relabel scope X.env).names.lookup x=some .free:=hx
    rcases hx with z | z
    . exact hcl2 x (Z5p hcell (.inl rfl) z)
    . exact hcl2 x (Z5p hcell (.inr rfl) z)
  . cases hf
  . show b ≠ s.heap.objs.size
    exact Nat.ne_of_lt (hex b hb).2
  . -- noex
    obtain ⟨⟨_,_,_,h4,_⟩,_⟩:=hex b hb
    rcases h4 with z | z
    . exact I.ok.noex b o e z
    . exact absurd (Heap.lt_size (I.ok.bs b o e).1) (Nat.not_lt.mpr z)
  . -- exfs
    obtain ⟨⟨_,h2,h3,_⟩,_⟩:=hex b hb
    rcases List.mem_cons.mp (nofr b hf) with z | z
    . exact h2 z
    . exact h3 z
  . -- loc
    have h1:(Z30 tgs fr X.N)[i]? = some x:=h1
    by_cases hi:i < tgs.length
    . unfold stIn at h2
      rw [List.getElem?_append_left (by simpa using hi),List.getElem?_replicate,if_pos hi] at h2
      cases h2
    . unfold stIn at h2
      rw [List.getElem?_append_right (by simpa using hi),List.length_replicate,List.getElem?_map] at h2
      unfold Z30 at h1
      rw [List.getElem?_append_right (by simpa using hi),List.getElem?_map] at h1
      cases ej:fr[i - tgs.length]? with
      | none=>rw [ej] at h2; cases h2
      | some j =>
        rw [ej] at h1 h2
        have hj:=c4 j (List.mem_of_getElem? ej)
        cases en:X.N[j]? with
        | none=>rw [en] at hj; cases hj
        | some y =>
          rw [en] at hj
          simp only [Option.map_some,en,Option.getD_some] at h1
          cases h1
          have hl:scope.names.lookup x=some .free:=by simpa using hj
          have hσ:σ[j]? = some (some v):=by
            simp only [Option.map_some] at h2
            cases eσ:σ[j]? with
            | none=>rw [eσ] at h2; cases h2
            | some o=>rw [eσ] at h2; simp only [Option.join_some] at h2; injection h2 with h2; rw [h2]
          have hko:X.env.scope.names.lookup x=some .cell \/ X.env.scope.names.lookup x=some .free:=by
            have:=c3 _ (PySem.mem_of_lookup hl)
            simpa using this
          obtain ⟨m,_,hloc⟩:=I.loc
          obtain ⟨u,r,q⟩:=hloc j x v en hσ (hko.elim (fun z=>.inr (.inl z)) fun z=>.inr (.inr z))
          refine ⟨u,r,.inr ?_⟩
          obtain ⟨c,hc⟩:=hcl2 x (PySem.mem_of_lookup hl)
          have hin:=Z2M (env:=X.env) hl
          refine ⟨hin,c,hc,?_⟩
          rcases q with ⟨k,_⟩ | ⟨_,c',e',z⟩
          . have k':X.env.scope.names.lookup x=some .local:=k
            rcases hko with w | w <;> (rw [k'] at w; cases w)
          . have:c'=c:=by have:=hcl1 x c hc; rw [e'] at this; exact Option.some.inj this
            subst this
            obtain ⟨oc,hoc,hd⟩:=z
            exact ⟨oc,hkeep _ _ hoc,hd⟩
  . obtain ⟨v,oc,hoc,hd⟩:=I.cell x c (hcl1 _ _ e)
    exact ⟨v,oc,hkeep _ _ hoc,hd⟩
  . have hp':p ∈ X.pn ++ pins:=by
      have:p ∈ (X.pn ++ pins) ++ []:=hp
      simpa using this
    obtain ⟨a1,a2,a3,a4,a5⟩:=I.pin p hp'
    refine ⟨hkeep _ _ a1,a2,?_,fun hf=>?_,a5⟩
    . show p.1 ≠ s.heap.objs.size
      exact Nat.ne_of_lt (lt _ _ a1)
    . rcases List.mem_cons.mp (nofr _ hf) with z | z
      . exact a3 z
      . exact a4 z
  . show (stIn tgs.length fr σ).length=(Z30 tgs fr X.N).length
    simp [stIn,Z30]
end
noncomputable def PTs (X:Cx) (ifs:List Expr) (t:TT):Prop :=
  ∀ (pins:List (Addr × Obj)) (s:Shared) (σ:St) (H:Hp) (Q:Bool -> Hp -> Prop),Inv X pins σ H s -> t σ H Q ->
    wpAny (model X.prog X.w) X.A (forIn ifs true fun c r=>if r=true then do let ok <- isTrue c X.env (eval c X.env); pure (ForInStep.yield ok) else pure (ForInStep.yield r)) (TP X pins σ Q) X.xe s
noncomputable def Zfy:TT:=fun _ H Q=>Q true H
theorem ZdF {X:Cx}:PTs X [] Zfy:=fun pins s σ H Q I h=>wpAny_tests_nil ⟨H,I,h⟩
theorem ZdE {X:Cx} {c:Expr} {t:TT} (h:PT X c t):PTs X [c] t:=fun pins s σ H Q I q=>wpAny_tests_one (h pins s σ H Q I q)
noncomputable def Zfr (J:It) (k:Nat) (fr:List Nat) (g:TG) (tt:TT) (te:TE) (σ:St) (H1:Hp) (Q:VK):Prop :=
  ∀ acc,H1 acc=none -> ∃ W:Nat -> Nat -> List V -> Hp -> Prop,(∃ m,W 0 m [] (upd H1 acc (.lst []))) /\ ∀ i m ys H,W i m ys H -> H acc=some (.lst ys) /\
    ((J.stop i H /\ Q (.ref acc) H) \/ (J.go i H /\ ∀ x H', J.yld i H x H' -> g x (stIn k fr σ) H' fun σ2 H2 => (σ2.drop k = (stIn k fr σ).drop k /\ σ2.length = (stIn k fr σ).length) /\ tt σ2 H2 fun b H3 => if b = true then te σ2 H3 fun y H4 => ∃ ys', H4 acc = some (.lst ys') /\ ys'.length < sizeLine /\
      ∃ m',m' < m /\ W (i + 1) m' (ys' ++ [y]) (upd H4 acc (.lst (ys' ++ [y]))) else ∃ m' ys',m' < m /\ W (i + 1) m' ys' H3))
noncomputable def Zdk (wi:TI) (k:Nat) (fr:List Nat) (g:TG) (tt:TT) (te:TE):TE:=fun σ H Q=>wi σ H fun J H1=>Zfr J k fr g tt te σ H1 Q
section
variable {X:Cx} {pins:List (Addr × Obj)} {σ:St} {H:Hp} {s:Shared} {elt iter tg:Expr} {ifs:List Expr} {scope:Scope} {pos:Pos} {tgs:List Str} {fr:List Nat} {g:TG} {tt:TT} {te:TE} {J:It} {fp:List Addr} {it:Addr} {tn:Nat -> Heap -> Prop}
theorem Z9a {cl:List (Str × Addr)} {R:VK} {E:Value -> Shared -> Prop} {RR:Value -> Addr -> Result -> Shared -> Prop} (I2:Inv X pins σ H s) (T:Turn X.prog X.w X.K tg J fp it tn) (st2:tn 0 s.heap) (f2:∀ b ∈ fp,FpOk X pins H b) (hc:X.calm=true)
    (chk:Z31 X.env.scope X.N scope fr=true)
    (hcl1:∀ n c,cl.lookup n=some c -> X.env.cells.lookup n=some c) (hcl2:∀ n,(n,NameKind.free) ∈ scope.names -> ∃ c,cl.lookup n=some c)
    (hg:∀ cl C s0 H0 ex pins,PG (Z2R X (Z30 tgs fr X.N) scope cl C s0 H0 ex pins) tg g)
    (ht:∀ cl C s0 H0 ex pins,PTs (Z2R X (Z30 tgs fr X.N) scope cl C s0 H0 ex pins) ifs tt)
    (he:∀ cl C s0 H0 ex pins,PE (Z2R X (Z30 tgs fr X.N) scope cl C s0 H0 ex pins) elt te)
    (rd:Zfr J tgs.length fr g tt te σ H R)
    (fin:∀ D C s' Hend m,Inv X pins σ Hend s' -> s'.heap.Ns C m -> Hend C=none -> C ≠ X.env.locals -> X.s₀.heap.objs.size <= C -> (∀ x c,X.env.cells.lookup x=some c -> c ≠ C) -> (∀ p ∈ X.pn ++ pins,p.1 ≠ C) -> R (.ref D) Hend -> RR (.ref D) C (.ok .next) s') :
    wpAny (model X.prog X.w) X.A (newList []) (fun acc s₃=>wpAny (model X.prog X.w) X.A (newFunctionEnv scope X.env.globals cl [] X.env.qual none .none (some X.env)) (fun cenv s₄ =>
      codeAny (model X.prog X.w) X.A (.compStart (.ListComp elt [⟨tg,iter,ifs,0⟩] scope pos) 0 (.ref it) acc { cenv with scope:=relabel scope X.env }) (RR acc cenv.locals) s₄) E s₃) E s:=by
  have chk':=chk
  simp only [Z31,Bool.and_eq_true,List.all_eq_true] at chk'
  obtain ⟨⟨⟨⟨c1,c2⟩,c3⟩,c4⟩,c5⟩:=chk'
  have hkind:scope.kind=.function:=by simpa using c1
  have hcell:∀ y ∈ scope.names,y.2 ≠ .cell:=fun y hy=>by simpa using c2 y hy
  refine wpAny_newObj_type (wpAny_newFunctionEnv hcell (by intro y hy; simp at hy) (fun h₁ hns₁ hsb₁=>?_) hkind)
  have I3:Inv X pins σ (upd H s.heap.objs.size (.lst [])) { s with heap:=s.heap.push { cls:=.type "list",data:=.seq ([]:List Value).toArray } }:=I2.lnew (t':=s.toks) (its:=[]) .nil (Nat.zero_le _)
  generalize hs3:({ s with heap:=s.heap.push { cls:=.type "list",data:=.seq ([]:List Value).toArray } }:Shared)=s3 at I3 hns₁ hsb₁ ⊢
  have heap3:s3.heap=s.heap.push { cls:=.type "list",data:=.seq ([]:List Value).toArray }:=by rw [<- hs3]
  have kept3:∀ b o,s.heap.get? b=some o -> s3.heap.get? b=some o:=fun b o e=>by rw [heap3]; exact Heap.get?_push_of_some _ e
  have size3:s3.heap.objs.size=s.heap.objs.size + 1:=by rw [heap3,Heap.size_push]
  have fpl:∀ b ∈ fp,b < s.heap.objs.size:=fun b hb=>by
    obtain ⟨o,e,_⟩:=T.obj 0 _ st2 b hb
    exact Heap.lt_size e
  have upn:∀ {b:Addr},b < s.heap.objs.size -> upd H s.heap.objs.size (.lst []) b=H b:=fun hb=>Z0u (Nat.ne_of_lt hb)
  have f3:∀ b ∈ fp,FpOk X pins (upd H s.heap.objs.size (.lst [])) b:=fun b hb=>⟨by rw [upn (fpl b hb)]; exact (f2 b hb).1,(f2 b hb).2⟩
  have keep4:∀ b o,s3.heap.get? b=some o -> h₁.get? b=some o:=fun b o e=>hsb₁.extBut b o (Nat.ne_of_lt (Heap.lt_size e)) (Heap.get?_push_of_some _ e)
  have I4:=Zcv (tgs:=tgs) (h':=h₁) (tk:=s3.toks + ([]:List (Str × Value)).length) (ex:=fp) I3 chk hcl1 hcl2 (by simpa using hns₁) keep4 (fun b hb=>⟨f3 b hb,by rw [size3]; exact Nat.lt_succ_of_lt (fpl b hb)⟩)
  obtain ⟨W,⟨m0,w0⟩,turn⟩:=rd s.heap.objs.size I2.fresh
  generalize hX':Z2R X (Z30 tgs fr X.N) scope cl s3.heap.objs.size s3 (upd H s.heap.objs.size (.lst [])) fp pins=X' at I4
  have eA:X'.A=X.A:=by rw [<- hX']; rfl
  have eP:X'.prog=X.prog:=by rw [<- hX']; rfl
  have eW:X'.w=X.w:=by rw [<- hX']; rfl
  have eK:X'.K=X.K:=by rw [<- hX']; rfl
  have eC:X'.calm=true:=by rw [<- hX']; exact hc
  have eX:X'.xe=fun _ _=>False:=by rw [<- hX']; rfl
  have eEnv:X'.env=compEnvC scope cl s3.heap.objs.size X.env:=by rw [<- hX']; rfl
  have hg':PG X' tg g:=by rw [<- hX']; exact hg _ _ _ _ _ _
  have ht':PTs X' ifs tt:=by rw [<- hX']; exact ht _ _ _ _ _ _
  have he':PE X' elt te:=by rw [<- hX']; exact he _ _ _ _ _ _
  have fp4:∀ {H':Hp},(∀ b ∈ fp,H' b=none) -> ∀ b ∈ fp,FpOk X' [] H' b:=fun {H'} hn b hb=>by
    rw [<- hX']
    obtain ⟨_,z2,z3,z4,z5,z6⟩:=f3 b hb
    refine ⟨hn b hb,?_,fun hf=>?_,.inl hb,fun x c e=>z5 x c (hcl1 _ _ e),fun p hp=>z6 p (by have:p ∈ (X.pn ++ pins) ++ []:=hp; simpa using this)⟩
    . show b ≠ s3.heap.objs.size
      rw [size3]; exact Nat.ne_of_lt (Nat.lt_succ_of_lt (fpl b hb))
    . rcases List.mem_cons.mp (I3.stkSub b hf) with z | z
      . exact z2 z
      . exact z3 z
  have loop:codeAny (model X.prog X.w) X.A (.compLoop (.ListComp elt [⟨tg,iter,ifs,0⟩] scope pos) 0 (.ref it) (.ref s.heap.objs.size) (compEnvC scope cl s3.heap.objs.size X.env))
      (RR (.ref s.heap.objs.size) s3.heap.objs.size) { s3 with heap:=h₁,toks:=s3.toks + ([]:List (Str × Value)).length }:=by
    refine Z7T (fun n s'=>∃ i ys H',Inv X' [] (stIn tgs.length fr σ) H' s' /\ tn i s'.heap /\ (∀ b ∈ fp,H' b=none) /\ W i n ys H') ?_ m0
      ⟨0,[],upd H s.heap.objs.size (.lst []),I4,T.keep _ _ _ st2 fun b hb o e=>keep4 _ _ (kept3 _ _ e),fun b hb=>(f3 b hb).1,w0⟩
    rintro n s5 ⟨i,ys,H5,I5,st5,fr5,w5⟩
    obtain ⟨hacc,turn⟩:=turn i n ys H5 w5
    rcases turn with ⟨stop,q⟩ | ⟨go,step⟩
    . have d:=T.done X' eP eW eK eC i [] s5 (stIn tgs.length fr σ) H5 (fun _ _=>False) I5 (fp4 fr5) st5 stop
      rw [eA] at d
      refine wpAny_mono d (fun r s6 ⟨hr,I6⟩=>?_) fun _ _ z=>z.elim
      subst hr
      have I6':=I6
      rw [<- hX'] at I6'
      have un6:Un (frs X.stack) fp (upd H s.heap.objs.size (.lst [])) H5 s3.heap s6.heap:=I6'.base
      have I7:Inv X pins σ H5 s6:=I3.call' I6'.os un6 (by have:=I6'.hok; exact this) I6'.bare fun b hb=>⟨(f3 b hb).2.2.2.1,(f3 b hb).2.1,(f3 b hb).2.2.2.2.1,(f3 b hb).2.2.2.2.2⟩
      obtain ⟨m,hm,_⟩:=I6'.loc
      refine fin _ _ s6 H5 m I7 hm I6'.free ?_ ?_ ?_ ?_ q
      . exact fun z=>by have:=I3.lt; rw [<- z] at this; exact Nat.lt_irrefl _ this
      . exact I3.sz
      . intro x c e z
        obtain ⟨v,oc,hoc,_⟩:=I3.cell x c e
        have:=Heap.lt_size hoc
        rw [z] at this; exact Nat.lt_irrefl _ this
      . intro p hp z
        have:=Heap.lt_size (I3.pin p hp).1
        rw [z] at this; exact Nat.lt_irrefl _ this
    . have d:=T.item X' eP eW eK eC i [] s5 (stIn tgs.length fr σ) H5 (fun _ _=>False) I5 (fp4 fr5) st5 go
      rw [eA] at d
      refine wpAny_mono d (fun r s6 ⟨u,hr,h6⟩=>?_) fun _ _ z=>z.elim
      subst hr
      refine wpAny_mono h6 (fun _ s7 ⟨x,H7,I7,r7,y7,st7,fr7⟩=>?_) fun _ _ z=>z.elim
      have I7':=I7.pinned (fp4 fr7) (T.obj _ _ st7)
      have a:=hg' _ s7 _ H7 x u _ I7' r7 (step x H7 y7)
      rw [eEnv,eA,eP,eW,eX] at a
      refine wpAny_mono a (fun _ s8 ⟨σ8,H8,I8,⟨kp,kl⟩,q8⟩=>?_) fun _ _ z=>z.elim
      have b:=ht' _ s8 σ8 H8 _ I8 q8
      rw [eEnv,eA,eP,eW,eX] at b
      refine wpAny_mono b (fun ok s9 ⟨H9,I9,q9⟩=>?_) fun _ _ z=>z.elim
      have again:∀ {s10:Shared} {H10:Hp} {ys10:List V} {m':Nat},Inv X' ([] ++ Z7q fp s7.heap) σ8 H10 s10 -> m' < n -> W (i + 1) m' ys10 H10 ->
          ∃ m,m < n /\ ∃ i ys H',Inv X' [] (stIn tgs.length fr σ) H' s10 /\ tn i s10.heap /\ (∀ b ∈ fp,H' b=none) /\ W i m ys H':=fun {s10 H10 ys10 m'} I10 hm w10=>by
        refine ⟨m',hm,i + 1,ys10,H10,I10.unpinned.weak kl.symm (fun j v e=>?_),T.keep _ _ _ st7 fun b hb o e=>(I10.pin (b,o) (List.mem_append_right _ (List.mem_append_right _ (Z3V hb e)))).1,fun b hb=>?_,w10⟩
        . by_cases hj:j < tgs.length
          . unfold stIn at e
            rw [List.getElem?_append_left (by simpa using hj),List.getElem?_replicate,if_pos hj] at e
            cases e
          . have e1:(σ8.drop tgs.length)[j - tgs.length]? = some (some v):=by
              rw [kp,List.getElem?_drop]
              rw [show tgs.length + (j - tgs.length)=j by omega]
              exact e
            rw [List.getElem?_drop,show tgs.length + (j - tgs.length)=j by omega] at e1
            exact e1
        . obtain ⟨o,e,d⟩:=T.obj _ _ st7 b hb
          exact (I10.pin (b,o) (List.mem_append_right _ (List.mem_append_right _ (Z3V hb e)))).2.1
      cases ok with
      | false =>
        rw [if_neg (by decide)] at q9 ⊢
        obtain ⟨m',ys',hm,w9⟩:=q9
        exact again I9 hm w9
      | true =>
        rw [if_pos rfl] at q9 ⊢
        have c:=he' _ s9 σ8 H9 _ I9 q9
        rw [eEnv,eA,eP,eW,eX] at c
        refine wpAny_mono c (fun y s10 ⟨v10,H10,I10,r10,ys',ha10,hl10,m',hm,w10⟩=>?_) fun _ _ z=>z.elim
        have d:=Z7C (X:=X') _ s10 σ8 H10 (.ref s.heap.objs.size) [v10] (.ref s.heap.objs.size) [y] (fun _ H11=>W (i + 1) m' (ys' ++ [v10]) H11) I10 rfl (.cons r10 .nil) ⟨_,ys',v10,rfl,rfl,ha10,hl10,w10⟩
        rw [eA,eP,eW,eX] at d
        refine wpAny_mono d (fun _ s11 ⟨_,H11,I11,_,w11⟩=>again I11 hm w11) fun _ _ z=>z.elim
  exact codeAny_compStart_list loop (T.self _ 0 _ _ _ (T.keep _ _ _ st2 fun b hb o e=>keep4 _ _ (kept3 _ _ e)) loop)
theorem ZdT {wi:TI} (hc:X.calm=true) (chk:Z31 X.env.scope X.N scope fr=true) (hi:PI X tg iter wi)
    (hg:∀ cl C s0 H0 ex pins,PG (Z2R X (Z30 tgs fr X.N) scope cl C s0 H0 ex pins) tg g)
    (ht:∀ cl C s0 H0 ex pins,PTs (Z2R X (Z30 tgs fr X.N) scope cl C s0 H0 ex pins) ifs tt)
    (he:∀ cl C s0 H0 ex pins,PE (Z2R X (Z30 tgs fr X.N) scope cl C s0 H0 ex pins) elt te)
    (hs:∀ x,foldedSetIterable iter X.env x=pure x:=by intro _; rfl) :
    PE X (.ListComp elt [⟨tg,iter,ifs,0⟩] scope pos) (Zdk wi tgs.length fr g tt te):=by
  intro pins s σ H Q I h
  have chk':=chk
  simp only [Z31,Bool.and_eq_true,List.all_eq_true] at chk'
  obtain ⟨⟨⟨⟨c1,c2⟩,c3⟩,c4⟩,c5⟩:=chk'
  obtain ⟨cl,ecl,hcl1,hcl2⟩:=Z6r (scope:=scope) (env:=X.env) fun n hn=>I.ok.has n (by have:=c3 _ hn; show X.env.scope.names.lookup n=_ \/ X.env.scope.names.lookup n=_; simpa using this)
  rw [eval_ListComp]
  refine wpAny_comprehension_free (use:=none) rfl hs ecl (by simpa using c1) (fun x hx hl=>by have:=c5 x hx; rw [hl] at this; simpa using this) (thn (hi pins s σ H _ I h) fun x s1 h1=>thn h1 fun itv s2 h2=>?_)
  obtain ⟨it,fp,tn,J,H2,rfl,I2,T,st2,f2,rd⟩:=h2
  refine Z9a (R:=Q) (RR:=fun acc C=>compPost (model X.prog X.w) X.A X.xe none (EP X pins σ Q) acc C) I2 T st2 f2 hc chk hcl1 hcl2 hg ht he rd ?_
  intro D C s' Hend m I' hn hf hL hsz hcs hps q
  exact ⟨m,hn,fun h' hs'=>⟨.ref D,Hend,I'.turned (t':=s'.toks) (fun b o hb e=>hs'.extBut b o hb e) hf hL (.inr hsz) hcs hps,rfl,q⟩⟩
theorem Z9t {wi:TI} {i:Nat} {x:Str} {pos' spos:Pos} (hc:X.calm=true) (hN:X.N.Nodup) (hi':X.N[i]? = some x) (hx:Loc X.env.scope x) (chk:Z31 X.env.scope X.N scope fr=true) (hi:PI X tg iter wi)
    (hg:∀ cl C s0 H0 ex pins,PG (Z2R X (Z30 tgs fr X.N) scope cl C s0 H0 ex pins) tg g)
    (ht:∀ cl C s0 H0 ex pins,PTs (Z2R X (Z30 tgs fr X.N) scope cl C s0 H0 ex pins) ifs tt)
    (he:∀ cl C s0 H0 ex pins,PE (Z2R X (Z30 tgs fr X.N) scope cl C s0 H0 ex pins) elt te)
    (hsw:swapsWith (.ListComp elt [⟨tg,iter,ifs,0⟩] scope pos) (some (.Name x pos')) spos.line X.env=pure true)
    (hf:X.fn x=true \/ X.env.scope.names.lookup x=some .local:=by first | exact .inl rfl | exact .inr rfl | assumption)
    (hs:∀ x,foldedSetIterable iter X.env x=pure x:=by intro _; rfl) :
    PS X (.Assign [.Name x pos'] (.ListComp elt [⟨tg,iter,ifs,0⟩] scope pos) spos) (tAsg (Zdk wi tgs.length fr g tt te) (Z9O i)):=by
  intro pins s σ H D I h
  have chk':=chk
  simp only [Z31,Bool.and_eq_true,List.all_eq_true] at chk'
  obtain ⟨⟨⟨⟨c1,c2⟩,c3⟩,c4⟩,c5⟩:=chk'
  obtain ⟨cl,ecl,hcl1,hcl2⟩:=Z6r (scope:=scope) (env:=X.env) fun n hn=>I.ok.has n (by have:=c3 _ hn; show X.env.scope.names.lookup n=_ \/ X.env.scope.names.lookup n=_; simpa using this)
  rw [exec_Assign_Name_used _ _ _ _ hsw]
  refine wpAny_bind (wpAny_standAt (wpAny_bind ?_))
  show wpAny _ X.A (do let _ <- comprehension (.ListComp elt [⟨tg,iter,ifs,0⟩] scope pos) scope X.env _ (newList []) false (eval iter X.env) (some (assign (.Name x pos') X.env))) _ _ s
  refine wpAny_bind (wpAny_mono (wpAny_comprehension_free (use:=some (assign (.Name x pos') X.env)) (Q:=fun _ s'=>SP X pins D .next s') rfl hs ecl (by simpa using c1) (fun x hx hl=>by have:=c5 x hx; rw [hl] at this; simpa using this)
    (thn (hi pins s σ H _ I h) fun x s1 h1=>thn h1 fun itv s2 h2=>?_)) (fun _ s' hq=>wpAny_pure (wpAny_pure hq)) fun _ _ e=>e)
  obtain ⟨it,fp,tn,J,H2,rfl,I2,T,st2,f2,rd⟩:=h2
  refine Z9a (RR:=fun acc C=>compPost (model X.prog X.w) X.A X.xe (some (assign (.Name _ pos') X.env)) (fun _ s'=>SP X pins D .next s') acc C) I2 T st2 f2 hc chk hcl1 hcl2 hg ht he rd ?_
  intro Da C s' Hend m I' hn hf' hL hsz hcs hps q
  show wpAny _ X.A (assign (.Name _ pos') X.env (.ref Da)) _ _ s'
  refine wpAny_assign_Name (Z7f I' hN hi' hx (v:=.ref Da) (u:=.ref Da) rfl (fun s'' I'' ⟨a,hsa,ha⟩=>?_) hf)
  have hCa:C ≠ a:=by
    rcases ha with z | z
    . rw [z]; exact hL
    . exact fun e=>hcs _ _ z e.symm
  exact ⟨m,hn.sameBut hsa hCa,fun h' hs'=>⟨_,Hend,I''.turned (t':=s''.toks) (fun b o hb e=>hs'.extBut b o hb e) hf' hL (.inr hsz) hcs hps,q⟩⟩
end
noncomputable def Ite (K:Frag) (a:Addr):It :=
  ⟨fun i H=>∃ xs x,SqL K H a xs /\ xs[i]? = some x,fun i H x H'=>∃ p y,H p=none /\ x=.ref p /\ (∀ xs,SqL K H a xs -> xs[i]? = some y) /\ H'=upd H p (.tup [.int (i:Int),y]),fun i H=>∃ xs,SqL K H a xs /\ xs.length <= i⟩
theorem Za1 {P:Program} {w:World} {K:Frag} {elts:List Expr} {k1:Nat} {pos:Pos} (a e it:Addr) (hne:e ≠ it) :
    Turn P w K (.Tuple elts k1 pos) (Ite K a) [e,it] e (fun i h=>(∃ old,IsEnum h e it i old) /\ h.IsListIter it a i) where
  mem:=by simp
  obj:=fun i h st b hb=>by
    obtain ⟨⟨old,he⟩,o,e',c,d⟩:=st
    rcases List.mem_cons.mp hb with z | z
    . subst z; exact ⟨_,he,fun v q=>by cases q⟩
    . have z:b=it:=by simpa using z
      subst z; exact ⟨o,e',fun v q=>by rw [d] at q; cases q⟩
  keep:=fun i h h' st k=>⟨let ⟨old,he⟩:=st.1; ⟨old,k e (by simp) _ he⟩,st.2.at fun o q=>k it (by simp) o q⟩
  item:=by
    intro X hP hw hK hc i pins s σ H E I hf st hg
    subst hP hw hK
    obtain ⟨xs,x,hq,hx⟩:=hg
    obtain ⟨its,rv,p,hz⟩:=I.list hq
    obtain ⟨u,hu,ru⟩:=rv.get hx
    obtain ⟨⟨old,he⟩,hit⟩:=st
    have fe:=hf e (by simp)
    have fi:=hf it (by simp)
    refine wpAny_pyNext_enum_item he hit p.isList (x:=u) (by simpa using hu) hne fun h' ho hit' hT hsz hk=>?_
    refine ⟨_,rfl,wpAny_letOwnedTupleGo_enum (s:={ s with heap:=h',toks:=s.toks + 1 }) ho fun h'' he'' hs''=>?_⟩
    have hfr:H s.heap.objs.size=none:=I.fresh
    have lt:∀ b o,s.heap.get? b=some o -> b ≠ s.heap.objs.size:=fun b o q=>Nat.ne_of_lt (Heap.lt_size q)
    have kp:∀ b o,b ≠ e -> b ≠ it -> s.heap.get? b=some o -> h''.get? b=some o:=fun b o h1 h2 q=>(hs''.2 b h1).trans (hk b o h1 h2 q)
    have hee:e ≠ s.heap.objs.size:=lt _ _ he
    have nch:∀ b u,H b=some u -> b ≠ e /\ b ≠ it:=fun b u q=>⟨fun z=>(by rw [z,fe.1] at q; cases q),fun z=>(by rw [z,fi.1] at q; cases q)⟩
    refine ⟨.ref s.heap.objs.size,upd H s.heap.objs.size (.tup [.int (i:Int),x]),?_,rfl,⟨_,x,hfr,rfl,fun ys hy=>by rw [I.list_inj hy hq]; exact hx,rfl⟩,⟨⟨_,by simpa using he''⟩,hit'.at fun o q=>(hs''.2 it (Ne.symm hne)).trans q⟩,fun b hb=>?_⟩
    . refine Inv.step (s:=s) (h':=h'') (t':=s.toks + 1) (H':=upd H s.heap.objs.size (.tup [.int (i:Int),x])) (g':=s.gens) (d':=s.drawn) (ch:=[e,it]) I (fun b hb=>?_) (fun b o _ _ hc q _=>kp b o (fun z=>hc (by simp [z])) (fun z=>hc (by simp [z])) q) (fun b o _ _ hc q _=>⟨o.slots,kp b o (fun z=>hc (by simp [z])) (fun z=>hc (by simp [z])) q⟩)
        (fun b o _ q n=>by rw [Z0u (lt b o q)]; exact n) (fun b o hc q=>⟨o,kp b o (fun z=>hc (by simp [z])) (fun z=>hc (by simp [z])) q⟩)
        (fun b ys q=>by rw [Z0u (Z0s q hfr)]; exact q) (fun b o u q=>by rw [Z0u (Z0s q hfr)]; exact q) (fun b ps q=>⟨#[],by rw [Z0u (Z0s q hfr),q]; simp⟩) (fun m hm=>?_) (fun b u q=>?_) I.bare
      . rcases List.mem_cons.mp hb with z | z
        . subst z; exact ⟨fe.2.2.2.1,fe.2.1,fe.2.2.2.2.1,fe.2.2.2.2.2⟩
        . have z:b=it:=by simpa using z
          subst z; exact ⟨fi.2.2.2.1,fi.2.1,fi.2.2.2.2.1,fi.2.2.2.2.2⟩
      . obtain ⟨o,es,ep,ho,r⟩:=hm
        exact ⟨o,es,ep,kp _ o (Ne.symm fe.2.1) (Ne.symm fi.2.1) ho,r⟩
      . by_cases hb:b=s.heap.objs.size
        . subst hb
          rw [Z0A] at q; cases q
          refine ⟨by show 2 <= sizeLine; decide,[.int (i:Int) s.toks,u],.cons ⟨_,rfl⟩ (.cons ru .nil),_,(hs''.2 _ (Ne.symm hee)).trans hT,rfl,_,rfl⟩
        . rw [Z0u hb] at q
          refine (I.hok b u q).stay (fun c v hc z=>?_) (fun c z=>by rw [Z0u (Z0s z hfr)]; exact z) fun c ys z=>by rw [Z0u (Z0s z hfr)]; exact z
          rcases hc with y | y
          . rw [y] at z ⊢; exact kp _ _ (nch b u q).1 (nch b u q).2 z
          . exact kp _ _ (nch c _ y).1 (nch c _ y).2 z
    . have hb':b < s.heap.objs.size:=by
        rcases List.mem_cons.mp hb with z | z
        . subst z; exact Heap.lt_size he
        . have z:b=it:=by simpa using z
          subst z; obtain ⟨o,q,_⟩:=hit; exact Heap.lt_size q
      rw [Z0u (Nat.ne_of_lt hb')]
      exact (hf b hb).1
  done:=by
    intro X hP hw hK hc i pins s σ H E I hf st hg
    subst hP hw hK
    obtain ⟨xs,hq,hx⟩:=hg
    obtain ⟨its,rv,p,hz⟩:=I.list hq
    obtain ⟨⟨old,he⟩,hit⟩:=st
    obtain ⟨f0,f1,f2,f3,f4,f5⟩:=hf it (by simp)
    have hl:=rv.length
    exact wpAny_pyNext_enum_end (I.ok.hd hc) he hit p.isList (by simp; omega) fun h' eb=>⟨rfl,I.turned (t':=s.toks) (fun b o hb e=>eb b o hb e) f0 f1 f3 f4 f5⟩
  self:=fun _ _ _ _ _ st h=>wpAny_pyIter_enum st.1.choose_spec h
section
variable {X:Cx} {tg:Expr} {elts:List Expr} {k1:Nat} {tpos:Pos}
noncomputable def Zg5 (K:Frag) (ta:TA):TI:=fun σ H R=>ta σ H fun vs H1=>∃ a,vs=[.ref a] /\ (∃ xs,SqL K H1 a xs) /\ R (Ite K a) H1
theorem ZdQ {l:Expr} {ta:TA} {p pos:Pos} (hg:Gl X "enumerate") (hm:X.mg "enumerate" = none) (ha:PA X [l] ta) (hs:starEach [l] X.env=[(false,eval l X.env)]:=by rfl) :
    PI X (.Tuple elts k1 tpos) (.Call (.Name "enumerate" p) [l] [] pos) (Zg5 X.K ta):=by
  intro pins s σ H R I h
  refine Call_ (Z6k I hg hm PyProof.Rows.boot_enumerate (PyProof.Rows.callWith_type1 (thn (ha pos pins s σ H _ I h) fun us s1 ⟨vs,H1,I1,r1,q1⟩=>?_) hs rfl))
  obtain ⟨a,rfl,⟨xs,hq⟩,q⟩:=q1
  cases r1 with
  | cons r rr =>
    cases rr
    cases r
    obtain ⟨its,rv,pl,hz⟩:=I1.list hq
    refine call_enumerate_list pl.isList fun h' he hit hsz hk=>?_
    refine wpAny_pyIter_enum (s:={ s1 with heap:=h' }) he ?_
    have I2:Inv X pins σ H1 { s1 with heap:=h' }:=I1.kept (t':=s1.toks) hk
    refine ⟨s1.heap.objs.size + 1,[s1.heap.objs.size + 1,s1.heap.objs.size],_,_,H1,rfl,I2,Za1 a _ _ (Nat.succ_ne_self _),⟨⟨_,he⟩,hit⟩,fun b hb=>?_,q⟩
    have hb':s1.heap.objs.size <= b:=by
      rcases List.mem_cons.mp hb with z | z
      . rw [z]; exact Nat.le_succ _
      . have z:b=s1.heap.objs.size:=by simpa using z
        rw [z]; exact Nat.le_refl _
    exact I1.fpOk hb' (I1.hok.fresh hb')
end
end L2
namespace PD
open PySem PySem.Spec PyProof.Rows L2
inductive D where
  | non | bl (b:Bool) | int (i:Int) | str (x:Str) | tup (xs:List D) | lst (xs:List D) | obj (C:Addr) (ns:List Str) (xs:List D) | dk (ks:List Key) (xs:List D) | dt (ks:List (List Key)) (xs:List D) | exc (C:Addr)
noncomputable def Zg0 (a:Addr) (cls:Value):Heap -> Prop:=fun h=>∃ oe vs,h.get? a=some oe /\ oe.cls=cls /\ oe.data=.fields vs
mutual
noncomputable def flat:D -> Bool
  | .non=>true
  | .bl _=>true
  | .int _=>true
  | .str _=>true
  | .tup xs=>Z1m xs
  | .lst _=>false
  | .obj _ _ _=>false
  | .dk _ _=>false
  | .dt _ _=>false
  | .exc _=>false
noncomputable def Z1m:List D -> Bool
  | []=>true
  | x :: r=>flat x && Z1m r
end
noncomputable def FzL (K:Frag) (H:Hp) (a:Addr) (vs:List V):Prop:=(∃ o,H a=some (.frz o (.lst vs))) \/
    ∃ (o:Obj) (its:Array Value) (n:Nat),K.lookup a=some o /\ o.cls=.type "list" /\ o.dict=none /\ o.data=.seq its n /\ its.size <= sizeLine /\ Vals vs its.toList
theorem FzL.sq {K:Frag} {H:Hp} {a:Addr} {vs:List V} (h:FzL K H a vs):SqL K H a vs:=by
  rcases h with ⟨o,h⟩ | h
  . exact .inl (.inr ⟨o,h⟩)
  . exact .inr h
theorem ZbR {K:Frag} {H:Hp} {a:Addr} {vs:List V} (h:SqL K H a vs):H a=some (.lst vs) \/ FzL K H a vs:=by
  rcases h with (h | ⟨o,h⟩) | h
  . exact .inl h
  . exact .inr (.inl ⟨o,h⟩)
  . exact .inr (.inr h)
mutual
noncomputable def Rep (K:Frag) (st:Bool) (H:Hp):D -> V -> List Addr -> Prop
  | .non,v,fp=>v=.non /\ fp=[]
  | .bl b,v,fp=>v=.bl b /\ fp=[]
  | .int i,v,fp=>v=.int i /\ fp=[]
  | .str x,v,fp=>v=.str x /\ fp=[]
  | .tup ds,v,fp=>∃ a vs,v=.ref a /\ SqT K H a vs /\ Reps K st H ds vs fp
  | .lst ds,v,fp=>∃ a vs fp',v=.ref a /\ Reps K st H ds vs fp' /\ ((fp=a :: fp' /\ H a=some (.lst vs)) \/ (st=false /\ fp=fp' /\ FzL K H a vs))
  | .obj C ns ds,v,fp=>∃ a dx vs fp',v=.ref a /\ fp=a :: fp' /\ H a=some (.ins C dx (ns.zip vs)) /\ ns.length=vs.length /\ Reps K st H ds vs fp'
  | .dk ks ds,v,fp=>∃ a vs fp',v=.ref a /\ fp=a :: fp' /\ H a=some (.dK (ks.zip vs)) /\ ks.length=vs.length /\ Reps K st H ds vs fp'
  | .dt ks ds,v,fp=>∃ a vs fp',v=.ref a /\ fp=a :: fp' /\ H a=some (.dT (ks.zip vs)) /\ ks.length=vs.length /\ Reps K st H ds vs fp'
  | .exc C,v,fp=>∃ a,v=.ref a /\ fp=[a] /\ H a=some (.ext (Zg0 a (.ref C)))
noncomputable def Reps (K:Frag) (st:Bool) (H:Hp):List D -> List V -> List Addr -> Prop
  | [],vs,fp=>vs=[] /\ fp=[]
  | d :: ds,vs,fp=>∃ v r f1 f2,vs=v :: r /\ fp=f1 ++ f2 /\ Rep K st H d v f1 /\ Reps K st H ds r f2
end
section
variable {K:Frag} {st:Bool} {H H':Hp}
structure Kp (fp:List Addr) (H H':Hp):Prop where
  fps:∀ b ∈ fp,∀ o,H b=some o -> H' b=some o
  tup:∀ b xs,H b=some (.tup xs) -> H' b=some (.tup xs)
  frz:∀ b o u,H b=some (.frz o u) -> H' b=some (.frz o u)
theorem Kp.same (e:Same H H') (fp:List Addr):Kp fp H H':=⟨fun b _ o h=>e b o h,fun b xs h=>e _ _ h,fun b o u h=>e _ _ h⟩
theorem Kp.sub {fp fp':List Addr} (k:Kp fp H H') (h:∀ b ∈ fp',b ∈ fp):Kp fp' H H':=⟨fun b hb=>k.fps b (h b hb),k.tup,k.frz⟩
theorem Kp.upd {a:Addr} {o o':HO} {fp:List Addr} (h:H a=some o) (hm:∀ xs,o ≠ .tup xs) (hf:∀ x u,o ≠ .frz x u) (hn:a ∉ fp):Kp fp H (L2.upd H a o') :=
  ⟨fun b hb u e => by have hba : b ≠ a := (fun z => hn (by rw [<- z]; exact hb)); rw [Z0u hba]; exact e,
   fun b xs e=>by rw [Z0u (fun z=>by rw [z,h] at e; exact hm xs (Option.some.inj e))]; exact e,
   fun b x u e=>by rw [Z0u (fun z=>by rw [z,h] at e; exact hf x u (Option.some.inj e))]; exact e⟩
theorem ZeC {fp:List Addr} (k:Kp fp H H') {a:Addr} {xs:List V} (h:SqT K H a xs):SqT K H' a xs:=by
  rcases h with (h | ⟨o,h⟩) | h
  . exact .inl (.inl (k.tup _ _ h))
  . exact .inl (.inr ⟨o,k.frz _ _ _ h⟩)
  . exact .inr h
theorem Zfl {fp:List Addr} (k:Kp fp H H') {a:Addr} {xs:List V} (h:FzL K H a xs):FzL K H' a xs:=by
  rcases h with ⟨o,h⟩ | h
  . exact .inl ⟨o,k.frz _ _ _ h⟩
  . exact .inr h
mutual
theorem Rep.keep:∀ (d:D) (v:V) (fp:List Addr),Kp fp H H' -> Rep K st H d v fp -> Rep K st H' d v fp
  | .non,v,fp,_,h=>by simpa only [Rep] using h
  | .bl b,v,fp,_,h=>by simpa only [Rep] using h
  | .int i,v,fp,_,h=>by simpa only [Rep] using h
  | .str x,v,fp,_,h=>by simpa only [Rep] using h
  | .tup ds,v,fp,k,h=>by
    simp only [Rep] at h ⊢
    obtain ⟨a,vs,e,hs,hr⟩:=h
    exact ⟨a,vs,e,ZeC k hs,Reps.keep ds vs fp k hr⟩
  | .lst ds,v,fp,k,h=>by
    simp only [Rep] at h ⊢
    obtain ⟨a,vs,fp',e,hr,hs⟩:=h
    rcases hs with ⟨rfl,hs⟩ | ⟨h1,rfl,hs⟩
    . exact ⟨a,vs,fp',e,Reps.keep ds vs fp' (k.sub fun b hb=>List.mem_cons_of_mem _ hb) hr,.inl ⟨rfl,k.fps a List.mem_cons_self _ hs⟩⟩
    . exact ⟨a,vs,fp,e,Reps.keep ds vs fp k hr,.inr ⟨h1,rfl,Zfl k hs⟩⟩
  | .obj C ns ds,v,fp,k,h=>by
    simp only [Rep] at h ⊢
    obtain ⟨a,dx,vs,fp',e,rfl,hs,hl,hr⟩:=h
    exact ⟨a,dx,vs,fp',e,rfl,k.fps a List.mem_cons_self _ hs,hl,Reps.keep ds vs fp' (k.sub fun b hb=>List.mem_cons_of_mem _ hb) hr⟩
  | .dk ks ds,v,fp,k,h=>by
    simp only [Rep] at h ⊢
    obtain ⟨a,vs,fp',e,rfl,hs,hl,hr⟩:=h
    exact ⟨a,vs,fp',e,rfl,k.fps a List.mem_cons_self _ hs,hl,Reps.keep ds vs fp' (k.sub fun b hb=>List.mem_cons_of_mem _ hb) hr⟩
  | .dt ks ds,v,fp,k,h=>by
    simp only [Rep] at h ⊢
    obtain ⟨a,vs,fp',e,rfl,hs,hl,hr⟩:=h
    exact ⟨a,vs,fp',e,rfl,k.fps a List.mem_cons_self _ hs,hl,Reps.keep ds vs fp' (k.sub fun b hb=>List.mem_cons_of_mem _ hb) hr⟩
  | .exc C,v,fp,k,h=>by
    simp only [Rep] at h ⊢
    obtain ⟨a,e,rfl,hs⟩:=h
    exact ⟨a,e,rfl,k.fps a List.mem_cons_self _ hs⟩
theorem Reps.keep:∀ (ds:List D) (vs:List V) (fp:List Addr),Kp fp H H' -> Reps K st H ds vs fp -> Reps K st H' ds vs fp
  | [],vs,fp,_,h=>by simpa only [Reps] using h
  | d :: ds,vs,fp,k,h=>by
    simp only [Reps] at h ⊢
    obtain ⟨v,r,f1,f2,e1,rfl,h1,h2⟩:=h
    exact ⟨v,r,f1,f2,e1,rfl,Rep.keep d v f1 (k.sub fun b hb=>List.mem_append_left _ hb) h1,Reps.keep ds r f2 (k.sub fun b hb=>List.mem_append_right _ hb) h2⟩
end
theorem Rep.same {d:D} {v:V} {fp:List Addr} (e:Same H H') (h:Rep K st H d v fp):Rep K st H' d v fp:=Rep.keep d v fp (Kp.same e fp) h
theorem Reps.same {ds:List D} {vs:List V} {fp:List Addr} (e:Same H H') (h:Reps K st H ds vs fp):Reps K st H' ds vs fp:=Reps.keep ds vs fp (Kp.same e fp) h
mutual
theorem Rep.dom:∀ (d:D) (v:V) (fp:List Addr),Rep K st H d v fp -> ∀ b ∈ fp,∃ o,H b=some o
  | .non,v,fp,h,b,hb=>by simp only [Rep] at h; rw [h.2] at hb; cases hb
  | .bl _,v,fp,h,b,hb=>by simp only [Rep] at h; rw [h.2] at hb; cases hb
  | .int _,v,fp,h,b,hb=>by simp only [Rep] at h; rw [h.2] at hb; cases hb
  | .str _,v,fp,h,b,hb=>by simp only [Rep] at h; rw [h.2] at hb; cases hb
  | .tup ds,v,fp,h,b,hb=>by
    simp only [Rep] at h
    obtain ⟨a,vs,e,hs,hr⟩:=h
    exact Reps.dom ds vs fp hr b hb
  | .lst ds,v,fp,h,b,hb=>by
    simp only [Rep] at h
    obtain ⟨a,vs,fp',e,hr,hs⟩:=h
    rcases hs with ⟨rfl,hs⟩ | ⟨_,rfl,hs⟩
    . rcases List.mem_cons.mp hb with z | z
      . exact ⟨_,z ▸ hs⟩
      . exact Reps.dom ds vs fp' hr b z
    . exact Reps.dom ds vs fp hr b hb
  | .obj C ns ds,v,fp,h,b,hb=>by
    simp only [Rep] at h
    obtain ⟨a,dx,vs,fp',e,rfl,hs,hl,hr⟩:=h
    rcases List.mem_cons.mp hb with z | z
    . exact ⟨_,z ▸ hs⟩
    . exact Reps.dom ds vs fp' hr b z
  | .dk ks ds,v,fp,h,b,hb=>by
    simp only [Rep] at h
    obtain ⟨a,vs,fp',e,rfl,hs,hl,hr⟩:=h
    rcases List.mem_cons.mp hb with z | z
    . exact ⟨_,z ▸ hs⟩
    . exact Reps.dom ds vs fp' hr b z
  | .dt ks ds,v,fp,h,b,hb=>by
    simp only [Rep] at h
    obtain ⟨a,vs,fp',e,rfl,hs,hl,hr⟩:=h
    rcases List.mem_cons.mp hb with z | z
    . exact ⟨_,z ▸ hs⟩
    . exact Reps.dom ds vs fp' hr b z
  | .exc C,v,fp,h,b,hb=>by
    simp only [Rep] at h
    obtain ⟨a,e,rfl,hs⟩:=h
    rw [List.mem_singleton.mp hb]
    exact ⟨_,hs⟩
theorem Reps.dom:∀ (ds:List D) (vs:List V) (fp:List Addr),Reps K st H ds vs fp -> ∀ b ∈ fp,∃ o,H b=some o
  | [],vs,fp,h,b,hb=>by simp only [Reps] at h; rw [h.2] at hb; cases hb
  | d :: ds,vs,fp,h,b,hb=>by
    simp only [Reps] at h
    obtain ⟨v,r,f1,f2,e1,rfl,h1,h2⟩:=h
    rcases List.mem_append.mp hb with z | z
    . exact Rep.dom d v f1 h1 b z
    . exact Reps.dom ds r f2 h2 b z
end
mutual
theorem Rep.flat:∀ (d:D) (v:V) (fp:List Addr),PD.flat d=true -> Rep K st H d v fp -> fp=[] /\ ∀ st',Rep K st' H d v []
  | .non,v,fp,_,h=>by simp only [Rep] at h ⊢; exact ⟨h.2,fun _=>⟨h.1,trivial⟩⟩
  | .bl _,v,fp,_,h=>by simp only [Rep] at h ⊢; exact ⟨h.2,fun _=>⟨h.1,trivial⟩⟩
  | .int _,v,fp,_,h=>by simp only [Rep] at h ⊢; exact ⟨h.2,fun _=>⟨h.1,trivial⟩⟩
  | .str _,v,fp,_,h=>by simp only [Rep] at h ⊢; exact ⟨h.2,fun _=>⟨h.1,trivial⟩⟩
  | .tup ds,v,fp,f,h=>by
    simp only [Rep] at h ⊢
    obtain ⟨a,vs,e,hs,hr⟩:=h
    obtain ⟨h1,h2⟩:=Reps.flat ds vs fp (by simpa only [PD.flat] using f) hr
    exact ⟨h1,fun st'=>⟨a,vs,e,hs,h2 st'⟩⟩
  | .lst ds,v,fp,f,h=>by simp only [PD.flat] at f; cases f
  | .obj C ns ds,v,fp,f,h=>by simp only [PD.flat] at f; cases f
  | .dk ks ds,v,fp,f,h=>by simp only [PD.flat] at f; cases f
  | .dt ks ds,v,fp,f,h=>by simp only [PD.flat] at f; cases f
  | .exc C,v,fp,f,h=>by simp only [PD.flat] at f; cases f
theorem Reps.flat:∀ (ds:List D) (vs:List V) (fp:List Addr),Z1m ds=true -> Reps K st H ds vs fp -> fp=[] /\ ∀ st',Reps K st' H ds vs []
  | [],vs,fp,_,h=>by simp only [Reps] at h ⊢; exact ⟨h.2,fun _=>⟨h.1,trivial⟩⟩
  | d :: ds,vs,fp,f,h=>by
    simp only [Reps] at h ⊢
    simp only [Z1m,Bool.and_eq_true] at f
    obtain ⟨v,r,f1,f2,e1,rfl,h1,h2⟩:=h
    obtain ⟨a1,a2⟩:=Rep.flat d v f1 f.1 h1
    obtain ⟨b1,b2⟩:=Reps.flat ds r f2 f.2 h2
    subst a1 b1
    exact ⟨rfl,fun st'=>⟨v,r,[],[],e1,rfl,a2 st',b2 st'⟩⟩
end
mutual
theorem Rep.weak:∀ (d:D) (v:V) (fp:List Addr),Rep K st H d v fp -> Rep K false H d v fp
  | .non,v,fp,h=>by simpa only [Rep] using h
  | .bl _,v,fp,h=>by simpa only [Rep] using h
  | .int _,v,fp,h=>by simpa only [Rep] using h
  | .str _,v,fp,h=>by simpa only [Rep] using h
  | .tup ds,v,fp,h=>by
    simp only [Rep] at h ⊢
    obtain ⟨a,vs,e,hs,hr⟩:=h
    exact ⟨a,vs,e,hs,Reps.weak ds vs fp hr⟩
  | .lst ds,v,fp,h=>by
    simp only [Rep] at h ⊢
    obtain ⟨a,vs,fp',e,hr,hs⟩:=h
    refine ⟨a,vs,fp',e,Reps.weak ds vs fp' hr,?_⟩
    rcases hs with hs | ⟨_,h1,h2⟩
    . exact .inl hs
    . exact .inr ⟨trivial,h1,h2⟩
  | .obj C ns ds,v,fp,h=>by
    simp only [Rep] at h ⊢
    obtain ⟨a,dx,vs,fp',e,h1,hs,hl,hr⟩:=h
    exact ⟨a,dx,vs,fp',e,h1,hs,hl,Reps.weak ds vs fp' hr⟩
  | .dk ks ds,v,fp,h=>by
    simp only [Rep] at h ⊢
    obtain ⟨a,vs,fp',e,h1,hs,hl,hr⟩:=h
    exact ⟨a,vs,fp',e,h1,hs,hl,Reps.weak ds vs fp' hr⟩
  | .dt ks ds,v,fp,h=>by
    simp only [Rep] at h ⊢
    obtain ⟨a,vs,fp',e,h1,hs,hl,hr⟩:=h
    exact ⟨a,vs,fp',e,h1,hs,hl,Reps.weak ds vs fp' hr⟩
  | .exc C,v,fp,h=>by simpa only [Rep] using h
theorem Reps.weak:∀ (ds:List D) (vs:List V) (fp:List Addr),Reps K st H ds vs fp -> Reps K false H ds vs fp
  | [],vs,fp,h=>by simpa only [Reps] using h
  | d :: ds,vs,fp,h=>by
    simp only [Reps] at h ⊢
    obtain ⟨v,r,f1,f2,e1,e2,h1,h2⟩:=h
    exact ⟨v,r,f1,f2,e1,e2,Rep.weak d v f1 h1,Reps.weak ds r f2 h2⟩
end
theorem Reps.length:∀ {ds:List D} {vs:List V} {fp:List Addr},Reps K st H ds vs fp -> vs.length=ds.length
  | [],vs,fp,h=>by simp only [Reps] at h; rw [h.1]; rfl
  | d :: ds,vs,fp,h=>by
    simp only [Reps] at h
    obtain ⟨v,r,f1,f2,e1,e2,h1,h2⟩:=h
    rw [e1,List.length_cons,List.length_cons,Reps.length h2]
theorem Reps.get:∀ {ds:List D} {vs:List V} {fp:List Addr} {i:Nat} {d:D},Reps K st H ds vs fp -> ds[i]? = some d -> ∃ v f,vs[i]? = some v /\ Rep K st H d v f /\ (∀ b ∈ f,b ∈ fp) /\ (fp.Nodup -> f.Nodup)
  | [],vs,fp,i,d,h,e=>by simp at e
  | d :: ds,vs,fp,i,d',h,e=>by
    simp only [Reps] at h
    obtain ⟨v,r,f1,f2,rfl,rfl,h1,h2⟩:=h
    cases i with
    | zero =>
      simp at e
      subst e
      exact ⟨v,f1,rfl,h1,fun b hb=>List.mem_append_left _ hb,fun nd=>(List.nodup_append.mp nd).1⟩
    | succ i =>
      obtain ⟨w,f,e1,e2,e3,e4⟩:=Reps.get h2 (by simpa using e)
      exact ⟨w,f,by simpa using e1,e2,fun b hb=>List.mem_append_right _ (e3 b hb),fun nd=>e4 (List.nodup_append.mp nd).2.1⟩
theorem Reps.snoc:∀ {ds:List D} {vs:List V} {fp fd:List Addr} {d:D} {v:V},Reps K st H ds vs fp -> Rep K st H d v fd -> Reps K st H (ds ++ [d]) (vs ++ [v]) (fp ++ fd)
  | [],vs,fp,fd,d,v,h,hd=>by
    simp only [Reps] at h
    obtain ⟨rfl,rfl⟩:=h
    simp only [List.nil_append,Reps]
    exact ⟨v,[],fd,[],rfl,(List.append_nil _).symm,hd,rfl,rfl⟩
  | d' :: ds,vs,fp,fd,d,v,h,hd=>by
    simp only [Reps] at h
    obtain ⟨w,r,f1,f2,rfl,rfl,h1,h2⟩:=h
    simp only [List.cons_append,Reps]
    exact ⟨w,r ++ [v],f1,f2 ++ fd,rfl,List.append_assoc ..,h1,Reps.snoc h2 hd⟩
theorem Reps.append:∀ {ds es:List D} {vs us:List V} {fp fd:List Addr},Reps K st H ds vs fp -> Reps K st H es us fd -> Reps K st H (ds ++ es) (vs ++ us) (fp ++ fd)
  | [],es,vs,us,fp,fd,h,hd=>by
    simp only [Reps] at h
    obtain ⟨rfl,rfl⟩:=h
    exact hd
  | d' :: ds,es,vs,us,fp,fd,h,hd=>by
    simp only [Reps] at h
    obtain ⟨w,r,f1,f2,rfl,rfl,h1,h2⟩:=h
    simp only [List.cons_append,Reps]
    exact ⟨w,r ++ us,f1,f2 ++ fd,rfl,List.append_assoc ..,h1,Reps.append h2 hd⟩
theorem Z0N {ds:List D} {v:V} {fp:List Addr} (h:Rep K st H (.lst ds) v fp):∃ a vs fp',v=.ref a /\ SqL K H a vs /\ Reps K st H ds vs fp' /\ (∀ b ∈ fp',b ∈ fp):=by
  simp only [Rep] at h
  obtain ⟨a,vs,fp',e,hr,hs⟩:=h
  rcases hs with ⟨rfl,hs⟩ | ⟨_,rfl,hs⟩
  . exact ⟨a,vs,fp',e,SqL.of hs,hr,fun b hb=>List.mem_cons_of_mem _ hb⟩
  . exact ⟨a,vs,fp,e,hs.sq,hr,fun b hb=>hb⟩
theorem Z3S {ds:List D} {v:V} {fp:List Addr} (h:Rep K true H (.lst ds) v fp):∃ a vs fp',v=.ref a /\ fp=a :: fp' /\ H a=some (.lst vs) /\ Reps K true H ds vs fp':=by
  simp only [Rep] at h
  obtain ⟨a,vs,fp',e,hr,hs⟩:=h
  rcases hs with ⟨e1,hs⟩ | ⟨z,_⟩
  . exact ⟨a,vs,fp',e,e1,hs,hr⟩
  . cases z
end
noncomputable abbrev Slot:=Option (Bool × D)
noncomputable abbrev En:=List Slot
noncomputable def EnvOk (K:Frag) (H:Hp) (σ:L2.St) (env:En) (F:Nat -> List Addr):Prop :=
  ∀ i o d,env[i]? = some (some (o,d)) -> ∃ v,σ[i]? = some (some v) /\ Rep K false H d v (F i)
theorem EnvOk.same {K:Frag} {H H':Hp} {σ:L2.St} {env:En} {F:Nat -> List Addr} (h:EnvOk K H σ env F) (e:Same H H'):EnvOk K H' σ env F :=
  fun i o d q=>let ⟨v,h1,h2⟩:=h i o d q; ⟨v,h1,h2.same e⟩
noncomputable def Cond (F:Nat -> List Addr) (H:Hp) (m:Bool) (rs:List Nat) (fp:List Addr):Prop:=(∀ b ∈ fp,H b=none \/ ∃ r ∈ rs,b ∈ F r) /\ (m=true -> fp.Nodup /\ ∀ b ∈ fp,H b=none)
theorem Cond.nil {F:Nat -> List Addr} {H:Hp} {m:Bool} {rs:List Nat}:Cond F H m rs []:=⟨fun b hb=>(by cases hb),fun _=>⟨List.nodup_nil,fun b hb=>(by cases hb)⟩⟩
theorem Cond.back {F:Nat -> List Addr} {H H':Hp} {m:Bool} {rs:List Nat} {fp:List Addr} (c:Cond F H' m rs fp) (e:Same H H'):Cond F H m rs fp :=
  ⟨fun b hb=>(c.1 b hb).imp (fun z=>e.free z) id,fun hm=>⟨(c.2 hm).1,fun b hb=>e.free ((c.2 hm).2 b hb)⟩⟩
noncomputable def tD (K:Frag) (m:Bool) (rs:List Nat) (f:En -> Option D):TE:=fun σ H Q =>
  ∃ env F d,EnvOk K H σ env F /\ f env=some d /\ ∀ v H' fp,Same H H' -> Rep K m H' d v fp -> Cond F H m rs fp -> Q v H'
noncomputable def tDT (K:Frag) (f:En -> Option Bool):TT:=fun σ H Q =>
  ∃ env F b,EnvOk K H σ env F /\ f env=some b /\ ∀ H',Same H H' -> Q b H'
noncomputable def tDA (K:Frag) (m:Bool) (rs:List Nat) (f:En -> Option (List D)):TA:=fun σ H Q =>
  ∃ env F ds,EnvOk K H σ env F /\ f env=some ds /\ ∀ vs H' fp,Same H H' -> Reps K m H' ds vs fp -> Cond F H m rs fp -> Q vs H'
noncomputable def QE (X:Cx) (m:Bool) (rs:List Nat) (e:Expr) (f:En -> Option D):Prop:=PE X e (tD X.K m rs f)
noncomputable def QT (X:Cx) (e:Expr) (f:En -> Option Bool):Prop:=PT X e (tDT X.K f)
noncomputable def QW (X:Cx) (e:Expr) (f:En -> Option Bool):Prop:=PW X e (tDT X.K f)
noncomputable def QA (X:Cx) (m:Bool) (rs:List Nat) (es:List Expr) (f:En -> Option (List D)):Prop:=PA X es (tDA X.K m rs f)
section
variable {X:Cx} {m m':Bool} {rs rs':List Nat} {e a b c:Expr} {es rest:List Expr} {f fa fb fc:En -> Option D} {g ga gb:En -> Option Bool} {pos:Pos}
theorem QE.mk {t:TE} (h:PE X e t) (hi:∀ σ H Q,tD X.K m rs f σ H Q -> t σ H Q):QE X m rs e f:=fun pins s σ H Q I q=>h pins s σ H Q I (hi σ H Q q)
theorem QT.mk {t:TT} (h:PT X e t) (hi:∀ σ H Q,tDT X.K g σ H Q -> t σ H Q):QT X e g:=fun pins s σ H Q I q=>h pins s σ H Q I (hi σ H Q q)
theorem QW.mk {t:TT} (h:PW X e t) (hi:∀ σ H Q,tDT X.K g σ H Q -> t σ H Q):QW X e g:=fun whole pins s σ H Q I q=>h whole pins s σ H Q I (hi σ H Q q)
theorem QW.qt (h:QW X e g):QT X e g:=h.pt
noncomputable def fVar (i:Nat):En -> Option D:=fun env=>(env[i]?).join.map (·.2)
noncomputable def fC (d:D):En -> Option D:=fun _=>some d
noncomputable def fI2 (C:Int -> Int -> Prop) (g:Int -> Int -> D) (fa fb:En -> Option D):En -> Option D:=fun env =>
  match fa env,fb env with
  | some (.int i),some (.int j)=>open Classical in if C i j then some (g i j) else none
  | _,_=>none
noncomputable def fI0 (g:Int -> Int -> D) (fa fb:En -> Option D):En -> Option D:=fun env =>
  match fa env,fb env with
  | some (.int i),some (.int j)=>some (g i j)
  | _,_=>none
noncomputable def Z0n (f:En -> Option D):En -> Option D:=fun env=>match f env with
  | some d=>if flat d=true then some d else none
  | none=>none
noncomputable def fB (f:En -> Option D):En -> Option Bool:=fun env=>match f env with
  | some (.bl b)=>some b
  | _=>none
noncomputable def fOfB (f:En -> Option Bool):En -> Option D:=fun env=>(f env).map .bl
noncomputable def fAnd (f g:En -> Option Bool):En -> Option Bool:=fun env=>match f env with
  | some true=>g env
  | some false=>some false
  | none=>none
noncomputable def fOr (f g:En -> Option Bool):En -> Option Bool:=fun env=>match f env with
  | some false=>g env
  | some true=>some true
  | none=>none
noncomputable def fNot (f:En -> Option Bool):En -> Option Bool:=fun env=>(f env).map (!·)
noncomputable def fNil:En -> Option (List D):=fun _=>some []
noncomputable def Z02 (f:En -> Option D) (g:En -> Option (List D)):En -> Option (List D):=fun env=>match f env,g env with
  | some d,some ds=>some (d :: ds)
  | _,_=>none
noncomputable def fTup (g:En -> Option (List D)):En -> Option D:=fun env=>match g env with
  | some ds=>if ds.length <= 1000 then some (.tup ds) else none
  | none=>none
noncomputable def fLst (g:En -> Option (List D)):En -> Option D:=fun env=>match g env with
  | some ds=>if ds.length <= 1000 then some (.lst ds) else none
  | none=>none
theorem Z0B {K:Frag} {H:Hp} {i:Int} {v:V} {fp:List Addr} (h:Rep K m H (.int i) v fp):v=.int i:=by simp only [Rep] at h; exact h.1
theorem Z3p {K:Frag} {H:Hp} {i:Bool} {v:V} {fp:List Addr} (h:Rep K m H (.bl i) v fp):v=.bl i:=by simp only [Rep] at h; exact h.1
theorem Z21 {K:Frag} {H:Hp} {i:Str} {v:V} {fp:List Addr} (h:Rep K m H (.str i) v fp):v=.str i:=by simp only [Rep] at h; exact h.1
theorem Z2t {K:Frag} {H:Hp} {v:V} {fp:List Addr} (h:Rep K m H .non v fp):v=.non:=by simp only [Rep] at h; exact h.1
theorem Z2z {K:Frag} {H:Hp} {i:Int}:Rep K m H (.int i) (.int i) []:=by simp only [Rep]; exact ⟨trivial,trivial⟩
theorem Z9C {K:Frag} {H:Hp} {i:Bool}:Rep K m H (.bl i) (.bl i) []:=by simp only [Rep]; exact ⟨trivial,trivial⟩
theorem Zd1 {K:Frag} {H:Hp} {i:Str}:Rep K m H (.str i) (.str i) []:=by simp only [Rep]; exact ⟨trivial,trivial⟩
theorem Z8U {K:Frag} {H:Hp}:Rep K m H .non .non []:=by simp only [Rep]; exact ⟨trivial,trivial⟩
theorem Z00 (i:Nat) {x:Str} (hN:X.N[i]? = some x:=by rfl) (hv:Vis X.env.scope x:=by first | exact Or.inl rfl | exact Or.inr (Or.inl rfl) | exact Or.inr (Or.inr rfl)) (hd:(x == ("__debug__" : Str))=false:=by decide) (hcd:(x == ("__classdict__" : Str))=false:=by decide) :
    QE X false [i] (.Name x pos) (fVar i) :=
  .mk (Z4s hN hv hd hcd) fun σ H Q ⟨env,F,d,ok,e,q⟩=>by
    unfold fVar at e
    cases h1:env[i]? with
    | none=>rw [h1] at e; cases e
    | some o =>
      cases o with
      | none=>rw [h1] at e; cases e
      | some p =>
        rw [h1] at e
        obtain ⟨ow,d'⟩:=p
        have e':d'=d:=Option.some.inj e
        subst e'
        obtain ⟨v,hv,hr⟩:=ok i ow d' h1
        exact ⟨v,hv,q v H _ (Same.refl H) hr ⟨fun b hb=>.inr ⟨i,by simp,hb⟩,fun z=>(by cases z)⟩⟩
theorem Z08 {i:Int} {j}:QE X m rs (.Constant (.int i) j pos) (fC (.int i)):=.mk pe_int fun σ H Q ⟨env,F,d,ok,e,q⟩=>by cases e; exact q _ _ _ (Same.refl H) Z2z .nil
theorem Z89 {i:Bool} {j}:QE X m rs (.Constant (.bool i) j pos) (fC (.bl i)):=.mk ZfU fun σ H Q ⟨env,F,d,ok,e,q⟩=>by cases e; exact q _ _ _ (Same.refl H) Z9C .nil
theorem Z0w {i:Str} {j}:QE X m rs (.Constant (.str i) j pos) (fC (.str i)):=.mk ZeZ fun σ H Q ⟨env,F,d,ok,e,q⟩=>by cases e; exact q _ _ _ (Same.refl H) Zd1 .nil
theorem Z6d {j}:QE X m rs (.Constant .none j pos) (fC .non):=.mk Zf1 fun σ H Q ⟨env,F,d,ok,e,q⟩=>by cases e; exact q _ _ _ (Same.refl H) Z8U .nil
theorem QE.weak (h:QE X true [] e f):QE X false rs e f:=.mk h fun σ H Q ⟨env,F,d,ok,e,q⟩ =>
  ⟨env,F,d,ok,e,fun v H' fp s r c=>q v H' fp s (Rep.weak _ _ _ r) ⟨fun b hb=>(c.1 b hb).imp id fun ⟨r,hr,_⟩=>(by simp at hr),fun z=>(by cases z)⟩⟩
theorem QE.more (h:QE X false rs e f) (hs:∀ r ∈ rs,r ∈ rs'):QE X false rs' e f:=.mk h fun σ H Q ⟨env,F,d,ok,e,q⟩ =>
  ⟨env,F,d,ok,e,fun v H' fp s r c=>q v H' fp s r ⟨fun b hb=>(c.1 b hb).imp id fun ⟨r,hr,z⟩=>⟨r,hs r hr,z⟩,c.2⟩⟩
theorem QE.flat (h:QE X m' rs e f):QE X m rs' e (Z0n f):=.mk h fun σ H Q ⟨env,F,d,ok,e,q⟩=>by
  unfold Z0n at e
  cases h1:f env with
  | none=>rw [h1] at e; cases e
  | some d' =>
    rw [h1] at e
    by_cases hf:PD.flat d'=true
    . simp only [hf,if_true] at e
      cases e
      refine ⟨env,F,_,ok,h1,fun v H' fp s r c=>?_⟩
      obtain ⟨e1,e2⟩:=Rep.flat _ _ _ hf r
      exact q v H' [] s (e2 _) .nil
    . simp only [hf] at e
      cases e
theorem two {K:Frag} {m1 m2:Bool} {rs1 rs2:List Nat} {σ:L2.St} {H:Hp} {env:En} {F:Nat -> List Addr} {x y:D} {R:V -> V -> Hp -> Prop} (ok:EnvOk K H σ env F) (ea:fa env=some x) (eb:fb env=some y)
    (h:∀ v u H' f1 f2,Same H H' -> Rep K m1 H' x v f1 -> Rep K m2 H' y u f2 -> Cond F H m1 rs1 f1 -> Cond F H m2 rs2 f2 -> R v u H'):tD K m1 rs1 fa σ H fun v H1=>tD K m2 rs2 fb σ H1 fun u H2=>R v u H2 :=
  ⟨env,F,x,ok,ea,fun v H1 f1 s1 r1 c1=>⟨env,F,y,ok.same s1,eb,fun u H2 f2 s2 r2 c2=>h v u H2 f1 f2 (s1.trans s2) (r1.same s2) r2 c1 (c2.back s1)⟩⟩
variable {m1 m2:Bool} {rs1 rs2:List Nat}
theorem Z0l {op:Operator} {C:Int -> Int -> Prop} {g:Int -> Int -> Int} (ho:OpR X (binaryOp op) (rI C fun i j=>.int (g i j))) (ha:QE X m1 rs1 a fa) (hb:QE X m2 rs2 b fb):QE X m rs (.BinOp a op b pos) (fI2 C (fun i j=>.int (g i j)) fa fb) :=
  .mk (pe_op ho ha hb) fun σ H Q ⟨env,F,d,ok,e,q⟩=>by
    unfold fI2 at e
    split at e
    . rename_i i j ea eb
      split at e
      . rename_i hc
        cases e
        refine two ok ea eb fun v u H' f1 f2 s r1 r2 _ _=>?_
        rw [Z0B r1,Z0B r2]
        exact ⟨i,j,rfl,rfl,hc,q _ _ _ s Z2z .nil⟩
      . cases e
    . cases e
theorem Z0m {op:Operator} {g:Int -> Int -> Int} (ho:OpR X (binaryOp op) (rI0 fun i j=>.int (g i j))) (ha:QE X m1 rs1 a fa) (hb:QE X m2 rs2 b fb):QE X m rs (.BinOp a op b pos) (fI0 (fun i j=>.int (g i j)) fa fb) :=
  .mk (pe_op ho ha hb) fun σ H Q ⟨env,F,d,ok,e,q⟩=>by
    unfold fI0 at e
    split at e
    . rename_i i j ea eb
      cases e
      refine two ok ea eb fun v u H' f1 f2 s r1 r2 _ _=>?_
      rw [Z0B r1,Z0B r2]
      exact ⟨i,j,rfl,rfl,q _ _ _ s Z2z .nil⟩
    . cases e
theorem Zav {op:CmpOp} {g:Int -> Int -> Bool} (ho:OpR X (compareOp op) (rI0 fun i j=>.bl (g i j))) (ha:QE X m1 rs1 a fa) (hb:QE X m2 rs2 b fb) (hm:behindInMarks op b=false):QE X m rs (.Compare a [op] [b] pos) (fI0 (fun i j=>.bl (g i j)) fa fb) :=
  .mk (ZaE ho ha hb hm) fun σ H Q ⟨env,F,d,ok,e,q⟩=>by
    unfold fI0 at e
    split at e
    . rename_i i j ea eb
      cases e
      refine two ok ea eb fun v u H' f1 f2 s r1 r2 _ _=>?_
      rw [Z0B r1,Z0B r2]
      exact ⟨i,j,rfl,rfl,q _ _ _ s Z9C .nil⟩
    . cases e
theorem Z8M (h:QE X m rs e f) (he:∀ whole,isTrue e X.env whole=(do let v <- whole; standAt e.pos; holding [v] (truthy v)):=by intro _; rfl):QT X e (fB f) :=
  .mk (ZeT h he) fun σ H Q ⟨env,F,b,ok,e,q⟩=>by
    unfold fB at e
    split at e
    . rename_i b' e1
      cases e
      refine ⟨env,F,_,ok,e1,fun v H' fp s r _=>?_⟩
      rw [Z3p r]
      exact ⟨_,rfl,q H' s⟩
    . cases e
theorem Z7l {op:CmpOp} {r:R2} (ho:OpR X (compareOp op) r) (ha:QE X m1 rs1 a fa) (hb:QE X m2 rs2 b fb) (hm:behindInMarks op b=false)
    (hr:∀ env x y K H v u f1 f2 Q bb,g env=some bb -> fa env=some x -> fb env=some y -> Rep K m1 H x v f1 -> Rep K m2 H y u f2 -> K=X.K -> Q (V.bl bb) H -> r v u H Q) (hn:∀ env bb,g env=some bb -> ∃ x y,fa env=some x /\ fb env=some y):QT X (.Compare a [op] [b] pos) g :=
  .mk (ZdG ho ha hb hm) fun σ H Q ⟨env,F,bb,ok,e,q⟩=>by
    obtain ⟨x,y,ea,eb⟩:=hn env bb e
    exact two ok ea eb fun v u H' f1 f2 s r1 r2 _ _=>hr env x y _ H' v u f1 f2 _ bb e ea eb r1 r2 rfl ⟨_,rfl,q H' s⟩
noncomputable def fBI (p:Int -> Int -> Bool) (fa fb:En -> Option D):En -> Option Bool:=fun env=>match fa env,fb env with
  | some (.int i),some (.int j)=>some (p i j)
  | _,_=>none
theorem Z88 {op:CmpOp} {p:Int -> Int -> Bool} (ho:OpR X (compareOp op) (rI0 fun i j=>.bl (p i j))) (ha:QE X m1 rs1 a fa) (hb:QE X m2 rs2 b fb) (hm:behindInMarks op b=false):QT X (.Compare a [op] [b] pos) (fBI p fa fb) :=
  Z7l ho ha hb hm (fun env x y K H v u f1 f2 Q bb e ea eb r1 r2 _ q=>by
    unfold fBI at e; rw [ea,eb] at e
    split at e
    . rename_i i j h1 h2
      cases h1; cases h2; cases e
      rw [Z0B r1,Z0B r2]
      exact ⟨i,j,rfl,rfl,q⟩
    . cases e) fun env bb e=>by
    unfold fBI at e
    split at e
    . rename_i i j h1 h2
      exact ⟨_,_,h1,h2⟩
    . cases e
theorem Zao (ha:QE X m1 rs1 a fa) (hb:QE X m2 rs2 b fb):QT X (.Compare a [.Lt] [b] pos) (fBI (fun i j=>decide (i < j)) fa fb):=Z88 ZfV ha hb (Z4Y _)
theorem ZbW (ha:QE X m1 rs1 a fa) (hb:QE X m2 rs2 b fb):QT X (.Compare a [.Gt] [b] pos) (fBI (fun i j=>decide (j < i)) fa fb):=Z88 ZdW ha hb (Z4Y _)
theorem ZbX (ha:QE X m1 rs1 a fa) (hb:QE X m2 rs2 b fb):QT X (.Compare a [.GtE] [b] pos) (fBI (fun i j=>decide (j <= i)) fa fb):=Z88 ZfW ha hb (Z4Y _)
noncomputable def fIsN (neg:Bool) (fa:En -> Option D):En -> Option Bool:=fun env=>match fa env with
  | some .non=>some (!neg)
  | some _=>some neg
  | none=>none
theorem Z9q {K:Frag} {H:Hp} {d:D} {v:V} {fp:List Addr} (h:Rep K m H d v fp) (hd:d ≠ .non):v ≠ .non:=by
  cases d with
  | non=>exact absurd rfl hd
  | bl _=>simp only [Rep] at h; rw [h.1]; simp
  | int _=>simp only [Rep] at h; rw [h.1]; simp
  | str _=>simp only [Rep] at h; rw [h.1]; simp
  | tup _=>simp only [Rep] at h; obtain ⟨a,vs,e,_⟩:=h; rw [e]; simp
  | lst _=>simp only [Rep] at h; obtain ⟨a,vs,fp',e,_⟩:=h; rw [e]; simp
  | obj _ _ _=>simp only [Rep] at h; obtain ⟨a,dx,vs,fp',e,_⟩:=h; rw [e]; simp
  | dk _ _=>simp only [Rep] at h; obtain ⟨a,vs,fp',e,_⟩:=h; rw [e]; simp
  | dt _ _=>simp only [Rep] at h; obtain ⟨a,vs,fp',e,_⟩:=h; rw [e]; simp
  | exc _=>simp only [Rep] at h; obtain ⟨a,e,_⟩:=h; rw [e]; simp
theorem Z5q {j pos'} (ha:QE X m1 rs1 a fa):QT X (.Compare a [.IsNot] [.Constant .none j pos'] pos) (fIsN true fa) :=
  Z7l ZdV ha (m2:=false) (rs2:=[]) Z6d (Z4Y _) (fun env x y K H v u f1 f2 Q bb e ea eb r1 r2 _ q=>by
    cases eb
    refine ⟨Z2t r2,?_⟩
    unfold fIsN at e; rw [ea] at e
    cases x with
    | non=>cases e; rw [Z2t r1]; exact q
    | _=>cases e; rw [decide_eq_false (Z9q r1 (by intro z; cases z))]; exact q) fun env bb e=>by
    unfold fIsN at e
    cases h:fa env with
    | none=>rw [h] at e; cases e
    | some x=>exact ⟨x,.non,rfl,rfl⟩
theorem Z3E (ha:QT X a ga):QW X (.BoolOp .And [a] pos) ga:=.mk (ZdD ha) fun σ H Q q=>q
theorem Zal (ha:QT X a ga):QW X (.BoolOp .Or [a] pos) ga:=.mk (ZeR ha) fun σ H Q q=>q
theorem Z3F (ha:QT X a ga) (hb:QW X (.BoolOp .And (b :: rest) pos) gb):QW X (.BoolOp .And (a :: b :: rest) pos) (fAnd ga gb) :=
  .mk (ZeS ha hb) fun σ H Q ⟨env,F,bb,ok,e,q⟩=>by
    unfold fAnd at e
    split at e
    . rename_i h1
      exact ⟨env,F,true,ok,h1,fun H' s=>by refine iteT ?_; exact ⟨env,F,bb,ok.same s,e,fun H2 s2=>q H2 (s.trans s2)⟩⟩
    . rename_i h1
      cases e
      exact ⟨env,F,false,ok,h1,fun H' s=>by refine iteF ?_; exact q H' s⟩
    . cases e
theorem Zam (ha:QT X a ga) (hb:QW X (.BoolOp .Or (b :: rest) pos) gb):QW X (.BoolOp .Or (a :: b :: rest) pos) (fOr ga gb) :=
  .mk (ZfM ha hb) fun σ H Q ⟨env,F,bb,ok,e,q⟩=>by
    unfold fOr at e
    split at e
    . rename_i h1
      exact ⟨env,F,false,ok,h1,fun H' s=>by refine iteF ?_; exact ⟨env,F,bb,ok.same s,e,fun H2 s2=>q H2 (s.trans s2)⟩⟩
    . rename_i h1
      cases e
      exact ⟨env,F,true,ok,h1,fun H' s=>by refine iteT ?_; exact q H' s⟩
    . cases e
theorem ZcS (ha:QT X a ga):QT X (.UnaryOp .Not a pos) (fNot ga):=.mk (L2.pt_not ha) fun σ H Q ⟨env,F,bb,ok,e,q⟩=>by
  unfold fNot at e
  cases h:ga env with
  | none=>rw [h] at e; cases e
  | some b1=>rw [h] at e; cases e; exact ⟨env,F,b1,ok,h,fun H' s=>q H' s⟩
theorem ZeO {op} (h:QE X m rs a f):QE X m rs (.BoolOp op [a] pos) f:=.mk (Zf0 h) fun σ H Q q=>q
theorem ZfL (ha:QE X m1 rs1 a fa) (hb:QE X m2 rs2 (.BoolOp .Or (b :: rest) pos) fb):QE X m rs (.BoolOp .Or (a :: b :: rest) pos) (fOfB (fOr (fB fa) (fB fb))) :=
  .mk (L2.pe_or ha hb) fun σ H Q ⟨env,F,d,ok,e,q⟩=>by
    unfold fOfB fOr fB at e
    cases h1:fa env with
    | none=>rw [h1] at e; cases e
    | some x =>
      rw [h1] at e
      cases x with
      | bl c =>
        cases c with
        | false =>
          simp only at e
          cases h2:fb env with
          | none=>rw [h2] at e; cases e
          | some y =>
            rw [h2] at e
            cases y with
            | bl c2 =>
              cases e
              refine ⟨env,F,_,ok,h1,fun v H1 f1 s1 r1 _=>?_⟩
              rw [Z3p r1]
              refine ⟨false,rfl,?_⟩
              refine iteF ?_
              refine ⟨env,F,_,ok.same s1,h2,fun u H2 f2 s2 r2 _=>?_⟩
              rw [Z3p r2]
              exact q _ _ _ (s1.trans s2) Z9C .nil
            | _=>cases e
        | true =>
          cases e
          refine ⟨env,F,_,ok,h1,fun v H1 f1 s1 r1 _=>?_⟩
          rw [Z3p r1]
          refine ⟨true,rfl,?_⟩
          refine iteT ?_
          exact q _ _ _ s1 Z9C .nil
      | _=>cases e
theorem Z07:QA X m rs [] fNil:=fun pos pins s σ H Q I ⟨env,F,ds,ok,e,q⟩=>Z8S pos pins s σ H Q I (by cases e; exact q [] H [] (Same.refl H) (by simp only [Reps]; exact ⟨trivial,trivial⟩) .nil)
theorem Z01 {ga:En -> Option (List D)} (ha:QE X m rs e f) (hr:QA X m rs es ga) (hs:starEach (e :: es) X.env=(false,eval e X.env) :: starEach es X.env:=by rfl):QA X m rs (e :: es) (Z02 f ga) :=
  fun pos pins s σ H Q I ⟨env,F,ds,ok,e,q⟩=>Z4N ha hr hs pos pins s σ H Q I (by
    unfold Z02 at e
    split at e
    . rename_i d ds' h1 h2
      cases e
      refine ⟨env,F,d,ok,h1,fun v H1 f1 s1 r1 c1=>⟨env,F,ds',ok.same s1,h2,fun vs H2 f2 s2 r2 c2=>q _ H2 (f1 ++ f2) (s1.trans s2) ?_ ?_⟩⟩
      . simp only [Reps]
        exact ⟨v,vs,f1,f2,rfl,rfl,r1.same s2,r2⟩
      . refine ⟨fun b hb=>(List.mem_append.mp hb).elim (c1.1 b) ((c2.back s1).1 b),fun hm=>⟨List.nodup_append.mpr ⟨(c1.2 hm).1,(c2.2 hm).1,fun x hx y hy z=>?_⟩,fun b hb=>(List.mem_append.mp hb).elim ((c1.2 hm).2 b) (((c2.back s1).2 hm).2 b)⟩⟩
        obtain ⟨o,ho⟩:=Rep.dom _ _ _ r1 x hx
        rw [z,(c2.2 hm).2 y hy] at ho
        cases ho
    . cases e)
end
theorem Z47 {n:Nat} (h:n <= 1000):n <= sizeLine:=Nat.le_of_lt (Z4m h)
section
variable {X:Cx} {m m' m1 m2:Bool} {rs rs' rs1 rs2:List Nat} {e a b c:Expr} {es rest:List Expr} {f fa fb fc:En -> Option D} {g ga gb:En -> Option Bool} {fs:En -> Option (List D)} {pos p:Pos}
theorem Z6h {K:Frag} {H:Hp} {q:Addr} {vs:List V} {ds:List D} {fp:List Addr} (hq:H q=none) (h:Reps K m H ds vs fp):Rep K m (upd H q (.tup vs)) (.tup ds) (.ref q) fp:=by
  have sm:Same H (upd H q (.tup vs)):=fun b o e=>by rw [Z0u (Z0s e hq)]; exact e
  simp only [Rep]
  exact ⟨q,vs,rfl,SqT.of Z0A,h.same sm⟩
theorem Z4v {K:Frag} {H:Hp} {q:Addr} {vs:List V} {ds:List D} {fp:List Addr} (hq:H q=none) (h:Reps K m H ds vs fp):Rep K m (upd H q (.lst vs)) (.lst ds) (.ref q) (q :: fp):=by
  have sm:Same H (upd H q (.lst vs)):=fun b o e=>by rw [Z0u (Z0s e hq)]; exact e
  simp only [Rep]
  exact ⟨q,vs,fp,rfl,h.same sm,.inl ⟨rfl,Z0A⟩⟩
theorem Z0O {H:Hp} {q:Addr} {o:HO} (hq:H q=none):Same H (upd H q o):=fun b u e=>by rw [Z0u (Z0s e hq)]; exact e
theorem Z4D {F:Nat -> List Addr} {H H':Hp} {K:Frag} {ds:List D} {vs:List V} {fp:List Addr} {q:Addr} (s:Same H H') (hq:H' q=none) (r:Reps K m H' ds vs fp) (c:Cond F H m rs fp):Cond F H m rs (q :: fp) :=
  ⟨fun b hb => (List.mem_cons.mp hb).elim (fun z => .inl (by rw [z]; exact s.free hq)) (c.1 b),
   fun hm=>⟨List.nodup_cons.mpr ⟨fun z=>(by obtain ⟨o,ho⟩:=Reps.dom _ _ _ r q z; rw [hq] at ho; cases ho),(c.2 hm).1⟩,fun b hb=>(List.mem_cons.mp hb).elim (fun z=>by rw [z]; exact s.free hq) ((c.2 hm).2 b)⟩⟩
theorem Z1F {x1} (h:QA X m rs es fs):QE X m rs (.Tuple es x1 pos) (fTup fs) :=
  .mk (L2.pe_tup h) fun σ H Q ⟨env,F,d,ok,e,q⟩=>by
    unfold fTup at e
    split at e
    . rename_i ds h1
      split at e
      . rename_i hl
        cases e
        refine ⟨env,F,ds,ok,h1,fun vs H' fp s r c=>⟨Z47 (by rw [r.length]; exact hl),fun p hp=>q _ _ fp (s.trans (Z0O hp)) (Z6h hp r) c⟩⟩
      . cases e
    . cases e
theorem Z1b (h:QA X m rs es fs):QE X m rs (.List es pos) (fLst fs) :=
  .mk (L2.pe_lst h) fun σ H Q ⟨env,F,d,ok,e,q⟩=>by
    unfold fLst at e
    split at e
    . rename_i ds h1
      split at e
      . rename_i hl
        cases e
        refine ⟨env,F,ds,ok,h1,fun vs H' fp s r c=>⟨Z47 (by rw [r.length]; exact hl),fun p hp=>q _ _ (p :: fp) (s.trans (Z0O hp)) (Z4v hp r) (Z4D s hp r c)⟩⟩
      . cases e
    . cases e
noncomputable def fIx (fa fb:En -> Option D):En -> Option D:=fun env=>match fa env,fb env with
  | some (.lst ds),some (.int i)=>atI ds i
  | some (.tup ds),some (.int i)=>atI ds i
  | some (.str z),some (.int i)=>if z.length <= 1000 then (atI z.cps.toList i).map fun c=>.str ⟨#[c]⟩ else none
  | _,_=>none
theorem ZbF {K:Frag} {H:Hp} {ds:List D} {vs:List V} {fp:List Addr} {i:Int} {d:D} (r:Reps K m H ds vs fp) (h:atI ds i=some d):∃ v f,atI vs i=some v /\ Rep K m H d v f /\ (∀ b ∈ f,b ∈ fp) /\ (fp.Nodup -> f.Nodup):=by
  unfold atI at h ⊢
  rw [r.length]
  cases hj:ixN ds.length i with
  | none=>rw [hj] at h; cases h
  | some j =>
    rw [hj] at h
    exact r.get h
theorem Z0D (ha:QE X m1 rs a fa) (hb:QE X m2 rs2 b fb) (hs:ZbI b:=by exact fun _ _=>rfl):QE X false rs (.Subscript a b pos) (fIx fa fb) :=
  .mk (ZfS Zfh ha hb hs) fun σ H Q ⟨env,F,d,ok,e,q⟩=>by
    unfold fIx at e
    split at e
    . rename_i ds i h1 h2
      refine two ok h1 h2 fun v u H' f1 f2 s r1 r2 c1 c2=>?_
      obtain ⟨p,vs,fp',rfl,hsq,hr,hsub⟩:=Z0N r1
      obtain ⟨w,f,e1,e2,e3,_⟩:=ZbF hr e
      rw [Z0B r2]
      exact .inl ⟨p,vs,i,w,rfl,rfl,hsq,e1,q w H' f s (Rep.weak _ _ _ e2) ⟨fun b hb=>c1.1 b (hsub b (e3 b hb)),fun z=>(by cases z)⟩⟩
    . rename_i ds i h1 h2
      refine two ok h1 h2 fun v u H' f1 f2 s r1 r2 c1 c2=>?_
      simp only [Rep] at r1
      obtain ⟨p,vs,rfl,hsq,hr⟩:=r1
      obtain ⟨w,f,e1,e2,e3,_⟩:=ZbF hr e
      rw [Z0B r2]
      exact .inr (.inl ⟨p,vs,i,w,rfl,rfl,hsq,e1,q w H' f s (Rep.weak _ _ _ e2) ⟨fun b hb=>c1.1 b (e3 b hb),fun z=>(by cases z)⟩⟩)
    . rename_i z i h1 h2
      split at e
      . rename_i hl
        refine two ok h1 h2 fun v u H' f1 f2 s r1 r2 c1 c2=>?_
        cases hc:atI z.cps.toList i with
        | none=>rw [hc] at e; cases e
        | some ch =>
          rw [hc] at e
          cases e
          rw [Z21 r1,Z0B r2]
          exact .inr (.inr ⟨z,i,ch,rfl,rfl,Z47 hl,hc,q _ H' [] s Zd1 .nil⟩)
      . cases e
    . cases e
noncomputable def QO (X:Cx) (e:Option Expr) (f:En -> Option (Option Int)):Prop:=PO X e (fun σ H Q=>∃ env F o,EnvOk X.K H σ env F /\ f env=some o /\ ∀ H',Same H H' -> Q o H')
noncomputable def fNoP:En -> Option (Option Int):=fun _=>some none
noncomputable def fP (f:En -> Option D):En -> Option (Option Int):=fun env=>match f env with
  | some (.int i)=>some (some i)
  | _=>none
theorem Z4M:QO X none fNoP:=fun pins s σ H Q I ⟨env,F,o,ok,e,q⟩=>ZdM pins s σ H Q I (by cases e; exact q H (Same.refl H))
theorem Z4L (h:QE X m rs e f):QO X (some e) (fP f):=fun pins s σ H Q I ⟨env,F,o,ok,e,q⟩=>ZdL h pins s σ H Q I (by
  unfold fP at e
  split at e
  . rename_i i h1
    cases e
    refine ⟨env,F,_,ok,h1,fun v H' fp s r _=>?_⟩
    rw [Z0B r]
    exact ⟨i,rfl,q H' s⟩
  . cases e)
noncomputable def cutD (xs:List D) (lo hi:Option Int):List D:=(xs.drop (HT.sIx xs.length 0 lo)).take (HT.sIx xs.length xs.length hi - HT.sIx xs.length 0 lo)
theorem Reps.drop {K:Frag} {H:Hp}:∀ (n:Nat) {ds:List D} {vs:List V} {fp:List Addr},Reps K m H ds vs fp -> ∃ f,Reps K m H (ds.drop n) (vs.drop n) f /\ (∀ b ∈ f,b ∈ fp)
  | 0,ds,vs,fp,h=>⟨fp,h,fun _ h=>h⟩
  | n + 1,[],vs,fp,h=>by simp only [Reps] at h; obtain ⟨rfl,rfl⟩:=h; exact ⟨[],by simp only [List.drop_nil,Reps]; exact ⟨trivial,trivial⟩,fun _ h=>h⟩
  | n + 1,d :: ds,vs,fp,h=>by
    simp only [Reps] at h
    obtain ⟨v,r,f1,f2,rfl,rfl,h1,h2⟩:=h
    obtain ⟨f,e1,e2⟩:=Reps.drop n h2
    exact ⟨f,e1,fun b hb=>List.mem_append_right _ (e2 b hb)⟩
theorem Reps.take {K:Frag} {H:Hp}:∀ (n:Nat) {ds:List D} {vs:List V} {fp:List Addr},Reps K m H ds vs fp -> ∃ f,Reps K m H (ds.take n) (vs.take n) f /\ (∀ b ∈ f,b ∈ fp)
  | 0,ds,vs,fp,h=>⟨[],by simp only [List.take_zero,Reps]; exact ⟨trivial,trivial⟩,fun b hb=>(by cases hb)⟩
  | n + 1,[],vs,fp,h=>by simp only [Reps] at h; obtain ⟨rfl,rfl⟩:=h; exact ⟨[],by simp only [List.take_nil,Reps]; exact ⟨trivial,trivial⟩,fun _ h=>h⟩
  | n + 1,d :: ds,vs,fp,h=>by
    simp only [Reps] at h
    obtain ⟨v,r,f1,f2,rfl,rfl,h1,h2⟩:=h
    obtain ⟨f,e1,e2⟩:=Reps.take n h2
    refine ⟨f1 ++ f,by simp only [List.take_succ_cons,Reps]; exact ⟨v,_,f1,f,rfl,rfl,h1,e1⟩,fun b hb=>?_⟩
    rcases List.mem_append.mp hb with z | z
    . exact List.mem_append_left _ z
    . exact List.mem_append_right _ (e2 b z)
theorem Reps.cut {K:Frag} {H:Hp} {ds:List D} {vs:List V} {fp:List Addr} (h:Reps K m H ds vs fp) (lo hi:Option Int):∃ f,Reps K m H (cutD ds lo hi) (cutV vs lo hi) f /\ (∀ b ∈ f,b ∈ fp):=by
  unfold cutD cutV
  rw [h.length]
  obtain ⟨f,e1,e2⟩:=Reps.drop (HT.sIx ds.length 0 lo) h
  obtain ⟨f',e3,e4⟩:=Reps.take (HT.sIx ds.length ds.length hi - HT.sIx ds.length 0 lo) e1
  exact ⟨f',e3,fun b hb=>e2 b (e4 b hb)⟩
theorem Z37:∀ {ds:List D},(∀ d ∈ ds,flat d=true) -> Z1m ds=true
  | [],_=>rfl
  | d :: ds,h=>by simp only [Z1m,Bool.and_eq_true]; exact ⟨h d List.mem_cons_self,Z37 fun x hx=>h x (List.mem_cons_of_mem _ hx)⟩
noncomputable def fSl (fa:En -> Option D) (fl fh:En -> Option (Option Int)):En -> Option D:=fun env=>match fa env,fl env,fh env with
  | some (.lst ds),some lo,some hi=>if Z1m ds=true then some (.lst (cutD ds lo hi)) else none
  | some (.tup ds),some lo,some hi=>if Z1m ds=true /\ ¬ (HT.sIx ds.length 0 lo=0 /\ HT.sIx ds.length ds.length hi=ds.length) then some (.tup (cutD ds lo hi)) else none
  | _,_,_=>none
theorem Z3T {lo hi:Option Expr} {fl fh:En -> Option (Option Int)} {p2:Pos} (ha:QE X m1 rs1 a fa) (hl:QO X lo fl) (hu:QO X hi fh):QE X m rs (.Subscript a (.Slice lo hi none p2) pos) (fSl fa fl fh) :=
  .mk (L2.pe_slice (SlR.or Zdo ZeD) ha hl hu) fun σ H Q ⟨env,F,d,ok,e,q⟩=>by
    unfold fSl at e
    split at e
    . rename_i ds l h h1 h2 h3
      split at e
      . rename_i hf
        cases e
        refine ⟨env,F,_,ok,h1,fun v H1 f1 s1 r1 c1=>⟨env,F,l,ok.same s1,h2,fun H2 s2=>⟨env,F,h,ok.same (s1.trans s2),h3,fun H3 s3=>.inl ?_⟩⟩⟩
        obtain ⟨p,vs,fp',rfl,hsq,hr,hsub⟩:=Z0N (r1.same (s2.trans s3))
        refine ⟨p,vs,rfl,hsq,fun p' hp=>?_⟩
        obtain ⟨g1,g2⟩:=Reps.flat _ _ _ hf hr
        obtain ⟨f',e3,e4⟩:=Reps.cut (g2 m) l h
        obtain rfl:f'=[]:=List.eq_nil_iff_forall_not_mem.mpr fun b hb=>(by cases e4 b hb)
        exact q _ _ [p'] (((s1.trans s2).trans s3).trans (Z0O hp)) (Z4v hp e3) (Z4D ((s1.trans s2).trans s3) hp e3 .nil)
      . cases e
    . rename_i ds l h h1 h2 h3
      split at e
      . rename_i hf
        cases e
        refine ⟨env,F,_,ok,h1,fun v H1 f1 s1 r1 c1=>⟨env,F,l,ok.same s1,h2,fun H2 s2=>⟨env,F,h,ok.same (s1.trans s2),h3,fun H3 s3=>.inr ?_⟩⟩⟩
        have r1':=r1.same (s2.trans s3)
        simp only [Rep] at r1'
        obtain ⟨p,vs,rfl,hsq,hr⟩:=r1'
        refine ⟨p,vs,rfl,hsq,by rw [hr.length]; exact hf.2,fun p' hp=>?_⟩
        obtain ⟨g1,g2⟩:=Reps.flat _ _ _ hf.1 hr
        obtain ⟨f',e3,e4⟩:=Reps.cut (g2 m) l h
        obtain rfl:f'=[]:=List.eq_nil_iff_forall_not_mem.mpr fun b hb=>(by cases e4 b hb)
        exact q _ _ [] (((s1.trans s2).trans s3).trans (Z0O hp)) (Z6h hp e3) .nil
      . cases e
    . cases e
theorem Z4r {x:Str} {id:String} {r:List V -> Hp -> VK -> Prop} {F':List D -> Option D} (hc:CallR X (.builtin id) r) (hg:Gl X x) (hm:X.mg x=none) (hv:bootBuiltins x=some (.builtin id)) (ha:QA X m1 rs1 (e :: es) fs)
    (hr:∀ ds d vs H fp Q,F' ds=some d -> Reps X.K m1 H ds vs fp -> (∀ v H' f',Same H H' -> Rep X.K m H' d v f' -> (∀ b ∈ f',H b=none) -> f'.Nodup -> Q v H') -> r vs H Q)
    (hn:x ≠ "__name__":=by decide) (hdb:(x == ("__debug__" : Str))=false:=by decide) (he:starEach (e :: es) X.env=(false,eval e X.env) :: starEach es X.env:=by rfl) (hpl:(backTo pos (starEach es X.env)).any (·.1)=false:=by rfl) :
    QE X m rs (.Call (.Name x p) (e :: es) [] pos) (fun env=>(fs env).bind F') :=
  .mk (L2.pe_callB hc hg hm hv ha hn hdb he hpl) fun σ H Q ⟨env,F,d,ok,e,q⟩=>by
    cases h1:fs env with
    | none=>simp only [h1] at e; cases e
    | some ds =>
      simp only [h1] at e
      exact ⟨env,F,ds,ok,h1,fun vs H' fp s r c=>hr ds d vs H' fp Q e r fun v H2 f' s2 r2 h2 nd=>q v H2 f' (s.trans s2) r2 ⟨fun b hb=>.inl (s.free (h2 b hb)),fun _=>⟨nd,fun b hb=>s.free (h2 b hb)⟩⟩⟩
theorem Z5u {x:Str} {T:String} {r:List V -> Hp -> VK -> Prop} {F':List D -> Option D} (hc:CallR X (.type T) r) (hg:Gl X x) (hm:X.mg x=none) (hv:bootBuiltins x=some (.type T)) (ha:QA X m1 rs1 (e :: es) fs)
    (hr:∀ ds d vs H fp Q,F' ds=some d -> Reps X.K m1 H ds vs fp -> (∀ v H' f',Same H H' -> Rep X.K m H' d v f' -> (∀ b ∈ f',H b=none) -> f'.Nodup -> Q v H') -> r vs H Q)
    (hn:x ≠ "__name__":=by decide) (hdb:(x == ("__debug__" : Str))=false:=by decide) (he:starEach (e :: es) X.env=(false,eval e X.env) :: starEach es X.env:=by rfl) (hpl:(backTo pos (starEach es X.env)).any (·.1)=false:=by rfl) :
    QE X m rs (.Call (.Name x p) (e :: es) [] pos) (fun env=>(fs env).bind F') :=
  .mk (L2.pe_callTy hc hg hm hv ha hn hdb he hpl) fun σ H Q ⟨env,F,d,ok,e,q⟩=>by
    cases h1:fs env with
    | none=>simp only [h1] at e; cases e
    | some ds =>
      simp only [h1] at e
      exact ⟨env,F,ds,ok,h1,fun vs H' fp s r c=>hr ds d vs H' fp Q e r fun v H2 f' s2 r2 h2 nd=>q v H2 f' (s.trans s2) r2 ⟨fun b hb=>.inl (s.free (h2 b hb)),fun _=>⟨nd,fun b hb=>s.free (h2 b hb)⟩⟩⟩
theorem Z4o {K:Frag} {H:Hp} {d:D} {vs:List V} {fp:List Addr} (h:Reps K m H [d] vs fp):∃ v,vs=[v] /\ Rep K m H d v fp:=by
  simp only [Reps] at h
  obtain ⟨v,r,f1,f2,rfl,rfl,h1,rfl,rfl⟩:=h
  exact ⟨v,rfl,by simpa using h1⟩
theorem ZeH {K:Frag} {H:Hp} {d d':D} {vs:List V} {fp:List Addr} (h:Reps K m H [d,d'] vs fp):∃ v v' f f',vs=[v,v'] /\ Rep K m H d v f /\ Rep K m H d' v' f' /\ fp=f ++ f':=by
  simp only [Reps] at h
  obtain ⟨v,r,f1,f2,rfl,rfl,h1,v',r',f3,f4,rfl,rfl,h2,rfl,rfl⟩:=h
  exact ⟨v,v',f1,f3,rfl,h1,h2,by simp⟩
noncomputable def FLen:List D -> Option D
  | [.lst ds]=>some (.int ds.length)
  | [.tup ds]=>some (.int ds.length)
  | [.str z]=>if z.length <= 1000 then some (.int z.length) else none
  | _=>none
theorem Z1W {p:Pos} (hg:Gl X "len") (hm:X.mg "len" = none) (ha:QE X m1 rs1 a fa) (he:starEach [a] X.env=(false,eval a X.env) :: starEach [] X.env:=by rfl) (hpl:(backTo pos (starEach [] X.env)).any (·.1)=false:=by rfl) :
    QE X m rs (.Call (.Name "len" p) [a] [] pos) (fun env=>(Z02 fa fNil env).bind FLen) :=
  Z4r (call_len_seq.or Z7W) hg hm PySem.boot_len (Z01 ha Z07 he) (fun ds d vs H fp Q e r q=>by
    unfold FLen at e
    split at e
    . cases e
      obtain ⟨v,rfl,r1⟩:=Z4o r
      obtain ⟨p,ws,fp',rfl,hsq,hr,hsub⟩:=Z0N r1
      exact .inl ⟨p,ws,rfl,.inl hsq,by rw [hr.length]; exact q _ _ [] (Same.refl H) Z2z (fun b hb=>(by cases hb)) List.nodup_nil⟩
    . cases e
      obtain ⟨v,rfl,r1⟩:=Z4o r
      simp only [Rep] at r1
      obtain ⟨p,ws,rfl,hsq,hr⟩:=r1
      exact .inl ⟨p,ws,rfl,.inr hsq,by rw [hr.length]; exact q _ _ [] (Same.refl H) Z2z (fun b hb=>(by cases hb)) List.nodup_nil⟩
    . split at e
      . rename_i hl
        cases e
        obtain ⟨v,rfl,r1⟩:=Z4o r
        rw [Z21 r1]
        exact .inr ⟨_,rfl,Z47 hl,q _ _ [] (Same.refl H) Z2z (fun b hb=>(by cases hb)) List.nodup_nil⟩
      . cases e
    . cases e) (he:=he) (hpl:=hpl)
noncomputable def Z4F:List D -> Option D
  | [.lst ds]=>if Z1m ds=true then some (.lst ds) else none
  | [.tup ds]=>if Z1m ds=true then some (.lst ds) else none
  | _=>none
theorem ZbA:bootBuiltins "list" = some (.type "list"):=by decide +kernel
theorem Z9S:bootBuiltins "tuple" = some (.type "tuple"):=by decide +kernel
theorem ZcH:bootBuiltins "int" = some (.type "int"):=by decide +kernel
theorem ZcG:bootBuiltins "min" = some (.builtin "min"):=by decide +kernel
theorem Z6D {p:Pos} (hg:Gl X "list") (hm:X.mg "list" = none) (ha:QE X m1 rs1 a fa) (he:starEach [a] X.env=(false,eval a X.env) :: starEach [] X.env:=by rfl) (hpl:(backTo pos (starEach [] X.env)).any (·.1)=false:=by rfl) :
    QE X m rs (.Call (.Name "list" p) [a] [] pos) (fun env=>(Z02 fa fNil env).bind Z4F) :=
  Z5u Z7V hg hm ZbA (Z01 ha Z07 he) (fun ds d vs H fp Q e r q=>by
    have fin:∀ {xs:List D} {ws:List V} {f:List Addr} {l:Addr},Z1m xs=true -> Reps X.K m1 H xs ws f -> H l=none -> Q (.ref l) (upd H l (.lst ws)) -> True:=fun _ _ _ _=>trivial
    unfold Z4F at e
    split at e
    . split at e
      . rename_i hf
        cases e
        obtain ⟨v,rfl,r1⟩:=Z4o r
        obtain ⟨p,ws,fp',rfl,hsq,hr,hsub⟩:=Z0N r1
        refine ⟨p,ws,rfl,.inl hsq,fun l hl=>?_⟩
        obtain ⟨g1,g2⟩:=Reps.flat _ _ _ hf hr
        exact q _ _ [l] (Z0O hl) (Z4v hl (g2 m)) (fun b hb=>by simp at hb; rw [hb]; exact hl) (by simp)
      . cases e
    . split at e
      . rename_i hf
        cases e
        obtain ⟨v,rfl,r1⟩:=Z4o r
        simp only [Rep] at r1
        obtain ⟨p,ws,rfl,hsq,hr⟩:=r1
        refine ⟨p,ws,rfl,.inr hsq,fun l hl=>?_⟩
        obtain ⟨g1,g2⟩:=Reps.flat _ _ _ hf hr
        exact q _ _ [l] (Z0O hl) (Z4v hl (g2 m)) (fun b hb=>by simp at hb; rw [hb]; exact hl) (by simp)
      . cases e
    . cases e) (he:=he) (hpl:=hpl)
noncomputable def Z55:List D -> Option D
  | [.lst ds]=>if Z1m ds=true then some (.tup ds) else none
  | [.tup ds]=>if Z1m ds=true then some (.tup ds) else none
  | _=>none
theorem Z6C {p:Pos} (hg:Gl X "tuple") (hm:X.mg "tuple" = none) (ha:QE X m1 rs1 a fa) (he:starEach [a] X.env=(false,eval a X.env) :: starEach [] X.env:=by rfl) (hpl:(backTo pos (starEach [] X.env)).any (·.1)=false:=by rfl) :
    QE X m rs (.Call (.Name "tuple" p) [a] [] pos) (fun env=>(Z02 fa fNil env).bind Z55) :=
  Z5u Z71 hg hm Z9S (Z01 ha Z07 he) (fun ds d vs H fp Q e r q=>by
    unfold Z55 at e
    split at e
    . split at e
      . rename_i hf
        cases e
        obtain ⟨v,rfl,r1⟩:=Z4o r
        obtain ⟨p,ws,fp',rfl,hsq,hr,hsub⟩:=Z0N r1
        refine ⟨p,ws,rfl,.inl ⟨hsq,fun l hl=>?_⟩⟩
        obtain ⟨g1,g2⟩:=Reps.flat _ _ _ hf hr
        exact q _ _ [] (Z0O hl) (Z6h hl (g2 m)) (fun b hb=>(by cases hb)) List.nodup_nil
      . cases e
    . split at e
      . rename_i hf
        cases e
        obtain ⟨v,rfl,r1⟩:=Z4o r
        have r2:=r1
        simp only [Rep] at r1
        obtain ⟨p,ws,rfl,hsq,hr⟩:=r1
        obtain ⟨g1,g2⟩:=Rep.flat _ _ _ (by simpa only [PD.flat] using hf) r2
        exact ⟨p,ws,rfl,.inr ⟨hsq,q _ _ [] (Same.refl H) (g2 m) (fun b hb=>(by cases hb)) List.nodup_nil⟩⟩
      . cases e
    . cases e) (he:=he) (hpl:=hpl)
noncomputable def FMin:List D -> Option D
  | [.int i,.int j]=>some (.int (if j < i then j else i))
  | _=>none
theorem ZeP {p:Pos} (hcm:X.calm=true) (hg:Gl X "min") (hm:X.mg "min" = none) (ha:QA X m1 rs1 [a,b] fs) (he:starEach [a,b] X.env=(false,eval a X.env) :: starEach [b] X.env:=by rfl) (hpl:(backTo pos (starEach [b] X.env)).any (·.1)=false:=by rfl) :
    QE X m rs (.Call (.Name "min" p) [a,b] [] pos) (fun env=>(fs env).bind FMin) :=
  Z4r (Zbw hcm) hg hm ZcG ha (fun ds d vs H fp Q e r q=>by
    unfold FMin at e
    split at e
    . rename_i i j
      cases e
      obtain ⟨v,v',f,f',rfl,r1,r2,rfl⟩:=ZeH r
      rw [Z0B r1,Z0B r2]
      exact ⟨i,j,rfl,q _ _ [] (Same.refl H) Z2z (fun b hb=>(by cases hb)) List.nodup_nil⟩
    . cases e) (he:=he) (hpl:=hpl)
noncomputable def FInt:List D -> Option D
  | [.int i]=>some (.int i)
  | [.bl k]=>some (.int (if k then 1 else 0))
  | _=>none
theorem Zdz {p:Pos} (hg:Gl X "int") (hm:X.mg "int" = none) (ha:QE X m1 rs1 a fa) (he:starEach [a] X.env=(false,eval a X.env) :: starEach [] X.env:=by rfl) (hpl:(backTo pos (starEach [] X.env)).any (·.1)=false:=by rfl) :
    QE X m rs (.Call (.Name "int" p) [a] [] pos) (fun env=>(Z02 fa fNil env).bind FInt) :=
  Z5u Zbx hg hm ZcH (Z01 ha Z07 he) (fun ds d vs H fp Q e r q=>by
    unfold FInt at e
    split at e
    . cases e
      obtain ⟨v,rfl,r1⟩:=Z4o r
      rw [Z0B r1]
      exact .inl ⟨_,rfl,q _ _ [] (Same.refl H) Z2z (fun b hb=>(by cases hb)) List.nodup_nil⟩
    . cases e
      obtain ⟨v,rfl,r1⟩:=Z4o r
      rw [Z3p r1]
      exact .inr ⟨_,rfl,q _ _ [] (Same.refl H) Z2z (fun b hb=>(by cases hb)) List.nodup_nil⟩
    . cases e) (he:=he) (hpl:=hpl)
end
section
variable {X:Cx} {m m' m1 m2:Bool} {rs rs' rs1 rs2:List Nat} {e a b c:Expr} {es rest:List Expr} {f fa fb fc:En -> Option D} {g ga gb:En -> Option Bool} {fs:En -> Option (List D)} {pos p:Pos}
noncomputable def spD (K:Frag) (n:Nat) (f:List D -> Option D):Sp:=fun vs H Q _=>∃ ds d fp,ds.length=n /\ Reps K false H ds vs fp /\ f ds=some d /\ ∀ v H' fp',Same H H' -> Rep K true H' d v fp' -> (∀ b ∈ fp',H b=none) -> fp'.Nodup -> Q v H'
theorem Zdn {K:Frag} {n:Nat} {f:List D -> Option D} {vs:List V} {H:Hp} {Q:VK} {E:XK} (h:spD K n f vs H Q E):vs.length=n:=by
  obtain ⟨ds,d,fp,h1,h2,_⟩:=h
  rw [h2.length,h1]
theorem ZdC {k:Nat} {fA:Addr} {fd:FuncData} {ps:List Str} {n:Nat} {F':List D -> Option D} {dvs:List V} {dds:List D} {ds:List Value} {x:Str} (G:FnOk X.prog X.w X.K X.mg X.base CX0 k fA fd ps (spD X.K n F')) (hr:Room k X.A) (hg:Gl X x) (hm:X.mg x=some (.ref fA)) (hk:keepIn X.K (.ref fA)=true)
    (hb:Binds X.K fd ps ds) (hd:Vals dvs ds) (hdd:∀ H,Reps X.K false H dds dvs []) (ha:QA X m1 rs1 (e :: es) fs) (hn:∀ env xs,fs env=some xs -> xs.length + dds.length=n)
    (hdb:(x == ("__debug__" : Str))=false:=by decide) (he:starEach (e :: es) X.env=(false,eval e X.env) :: starEach es X.env:=by rfl) (hpl:(backTo pos (starEach es X.env)).any (·.1)=false:=by rfl) :
    QE X true [] (.Call (.Name x p) (e :: es) [] pos) (fun env=>(fs env).bind fun xs=>F' (xs ++ dds)) :=
  .mk (L2.pe_call G hr hg hm hk hb hd Zf4 ha hdb he hpl) fun σ H Q ⟨env,F,d,ok,e,q⟩=>by
    cases h1:fs env with
    | none=>simp only [h1] at e; cases e
    | some xs =>
      simp only [h1] at e
      refine ⟨env,F,xs,ok,h1,fun vs H' fp s r c=>⟨xs ++ dds,d,fp ++ [],by rw [List.length_append]; exact hn env xs h1,(Reps.weak _ _ _ r).append (hdd H'),e,fun v H2 fp' s2 r2 h2 nd=>q v H2 fp' (s.trans s2) r2 ⟨fun b hb=>.inl (s.free (h2 b hb)),fun _=>⟨nd,fun b hb=>s.free (h2 b hb)⟩⟩⟩⟩
theorem Z65 {K:Frag} {H:Hp} {nm:Str}:∀ {ns:List Str} {ds:List D} {vs:List V} {fp:List Addr} {d:D},Reps K m H ds vs fp -> (ns.zip ds).lookup nm=some d -> ∃ v f,(ns.zip vs).lookup nm=some v /\ Rep K m H d v f /\ ∀ b ∈ f,b ∈ fp
  | [],ds,vs,fp,d,r,e=>by cases e
  | n :: ns,[],vs,fp,d,r,e=>by cases e
  | n :: ns,d' :: ds,vs,fp,d,r,e=>by
    simp only [Reps] at r
    obtain ⟨v,vr,f1,f2,rfl,rfl,h1,h2⟩:=r
    simp only [List.zip_cons_cons,List.lookup_cons] at e ⊢
    cases hq:nm == n with
    | true =>
      rw [hq] at e
      cases e
      exact ⟨v,f1,rfl,h1,fun b hb=>List.mem_append_left _ hb⟩
    | false =>
      rw [hq] at e
      obtain ⟨w,f,a1,a2,a3⟩:=Z65 h2 e
      exact ⟨w,f,a1,a2,fun b hb=>List.mem_append_right _ (a3 b hb)⟩
noncomputable def fFld (C:Addr) (nm:Str) (fa:En -> Option D):En -> Option D:=fun env=>match fa env with
  | some (.obj C' ns ds)=>if C'=C then (ns.zip ds).lookup nm else none
  | _=>none
theorem Z0x {C:Addr} {nm:Str} (hc:Cls X.K C) (hn:NoAttr X.K C nm) (ha:QE X m1 rs a fa) (hb:attributeBase a nm X.env (eval a X.env)=eval a X.env:=by rfl):QE X false rs (.Attribute a nm pos) (fFld C nm fa) :=
  .mk (Zf2 ha hb) fun σ H Q ⟨env,F,d,ok,e,q⟩=>by
    unfold fFld at e
    split at e
    . rename_i C' ns ds h1
      split at e
      . rename_i hC
        subst hC
        refine ⟨env,F,_,ok,h1,fun v H' fp s r c=>?_⟩
        simp only [Rep] at r
        obtain ⟨a',dx,vs,fp',rfl,rfl,h2,h3,h4⟩:=r
        obtain ⟨w,f,a1,a2,a3⟩:=Z65 h4 e
        exact ⟨a',C',dx,_,w,rfl,h2,hc,hn,a1,q w H' f s (Rep.weak _ _ _ a2) ⟨fun b hb=>c.1 b (List.mem_cons_of_mem _ (a3 b hb)),fun z=>(by cases z)⟩⟩
      . cases e
    . cases e
noncomputable def Z8A (K:Frag) (J:It) (H0:Hp) (ds:List D) (fp:List Addr):Prop:=∀ H,Kp fp H0 H -> ∀ i,
  (∀ d,ds[i]? = some d -> J.go i H /\ ∀ x H',J.yld i H x H' -> Same H H' /\ ∃ f,Rep K false H' d x f /\ ∀ b ∈ f,b ∈ fp) /\ (ds.length <= i -> J.stop i H)
noncomputable def tDI (K:Frag) (rs:List Nat) (f:En -> Option (List D)):TI:=fun σ H R=>∃ env F ds,EnvOk K H σ env F /\ f env=some ds /\ ∀ J H' fp,Same H H' -> Z8A K J H' ds fp -> (∀ b ∈ fp,∃ o,H' b=some o) -> Cond F H false rs fp -> R J H'
noncomputable def QI (X:Cx) (tg:Expr) (rs:List Nat) (iter:Expr) (f:En -> Option (List D)):Prop:=PI X tg iter (tDI X.K rs f)
theorem QI.mk {tg iter:Expr} {wi:TI} {f:En -> Option (List D)} (h:PI X tg iter wi) (hi:∀ σ H R,tDI X.K rs f σ H R -> wi σ H R):QI X tg rs iter f:=fun pins s σ H R I q=>h pins s σ H R I (hi σ H R q)
theorem PI.or {tg iter:Expr} {w1 w2:TI} (h1:PI X tg iter w1) (h2:PI X tg iter w2):PI X tg iter (fun σ H R=>w1 σ H R \/ w2 σ H R):=fun pins s σ H R I q=>q.elim (h1 pins s σ H R I) (h2 pins s σ H R I)
theorem Z9K {K:Frag} {H0:Hp} {ds:List D} {a:Addr} {fp:List Addr} (r:Rep K false H0 (.lst ds) (.ref a) fp):Z8A K (Itl K a) H0 ds fp:=fun H k i=>by
  have r':=Rep.keep _ _ _ k r
  obtain ⟨p,vs,fp',e,hsq,hr,hsub⟩:=Z0N r'
  cases e
  refine ⟨fun d hd=>?_,fun hl=>⟨vs,hsq,by rw [hr.length]; exact hl⟩⟩
  obtain ⟨v,f,h1,h2,h3,_⟩:=hr.get hd
  refine ⟨⟨vs,v,hsq,h1⟩,fun x H' y=>?_⟩
  obtain ⟨rfl,y⟩:=y
  have:=y vs hsq
  rw [h1] at this
  cases this
  exact ⟨Same.refl _,f,h2,fun b hb=>hsub b (h3 b hb)⟩
theorem Zb9 {K:Frag} {H0:Hp} {ds:List D} {a:Addr} {fp:List Addr} (r:Rep K false H0 (.tup ds) (.ref a) fp):Z8A K (Itt K a) H0 ds fp:=fun H k i=>by
  have r':=Rep.keep _ _ _ k r
  simp only [Rep] at r'
  obtain ⟨p,vs,e,hsq,hr⟩:=r'
  cases e
  refine ⟨fun d hd=>?_,fun hl=>⟨vs,hsq,by rw [hr.length]; exact hl⟩⟩
  obtain ⟨v,f,h1,h2,h3,_⟩:=hr.get hd
  refine ⟨⟨vs,v,hsq,h1⟩,fun x H' y=>?_⟩
  obtain ⟨rfl,y⟩:=y
  have:=y vs hsq
  rw [h1] at this
  cases this
  exact ⟨Same.refl _,f,h2,h3⟩
theorem Z9L {K:Frag} {H0:Hp} {ds:List D} {a:Addr} {fp:List Addr} (r:Rep K false H0 (.lst ds) (.ref a) fp):Z8A K (Ite K a) H0 (ds.mapIdx fun i d=>.tup [.int i,d]) fp:=fun H k i=>by
  have r':=Rep.keep _ _ _ k r
  obtain ⟨p,vs,fp',e,hsq,hr,hsub⟩:=Z0N r'
  cases e
  refine ⟨fun d hd=>?_,fun hl=>⟨vs,hsq,by rw [hr.length]; simpa using hl⟩⟩
  rw [List.getElem?_mapIdx] at hd
  cases hdd:ds[i]? with
  | none=>rw [hdd] at hd; cases hd
  | some d' =>
    rw [hdd] at hd
    cases hd
    obtain ⟨v,f,h1,h2,h3,_⟩:=hr.get hdd
    refine ⟨⟨vs,v,hsq,h1⟩,fun x H' y=>?_⟩
    obtain ⟨q,w,hq,rfl,y,rfl⟩:=y
    have:=y vs hsq
    rw [h1] at this
    cases this
    refine ⟨Z0O hq,f,Z6h hq ?_,fun b hb=>hsub b (h3 b hb)⟩
    simp only [Reps]
    exact ⟨.int i,[v],[],f,rfl,rfl,Z2z,v,[],f,[],rfl,by simp,h2,rfl,rfl⟩
theorem Z8o {K:Frag} {H0:Hp} (lo:Int) (n:Nat):Z8A K (Itr lo n) H0 ((List.range n).map fun (k:Nat)=>.int (lo + (k:Int))) []:=fun H k i=>by
  refine ⟨fun d hd=>?_,fun hl=>(show n <= i by simpa using hl)⟩
  rw [List.getElem?_map] at hd
  cases hdd:(List.range n)[i]? with
  | none=>rw [hdd] at hd; cases hd
  | some j =>
    rw [hdd] at hd
    cases hd
    obtain ⟨hlt,e⟩:=List.getElem?_eq_some_iff.mp hdd
    rw [List.getElem_range] at e
    subst e
    refine ⟨(show i < n by simpa using hlt),fun x H' y=>?_⟩
    obtain ⟨rfl,rfl⟩:=y
    exact ⟨Same.refl _,[],Z2z,fun b hb=>hb⟩
noncomputable def fSeq (fa:En -> Option D):En -> Option (List D):=fun env=>match fa env with
  | some (.lst ds)=>some ds
  | some (.tup ds)=>some ds
  | _=>none
theorem Z1i {tg:Expr} (ha:QE X m1 rs a fa):QI X tg rs a (fSeq fa) :=
  .mk (PI.or (ZdP ha) (ZeW ha)) fun σ H R ⟨env,F,ds,ok,e,q⟩=>by
    unfold fSeq at e
    split at e
    . rename_i ds' h1
      cases e
      refine .inl ⟨env,F,_,ok,h1,fun v H' fp s r c=>?_⟩
      have r0:=Rep.weak _ _ _ r
      obtain ⟨p,vs,fp',rfl,hsq,hr,hsub⟩:=Z0N r
      exact ⟨p,rfl,⟨vs,hsq⟩,q _ H' fp s (Z9K r0) (Rep.dom _ _ _ r) ⟨c.1,fun z=>(by cases z)⟩⟩
    . rename_i ds' h1
      cases e
      refine .inr ⟨env,F,_,ok,h1,fun v H' fp s r c=>?_⟩
      have r0:=Rep.weak _ _ _ r
      have r1:=r
      simp only [Rep] at r1
      obtain ⟨p,vs,rfl,hsq,hr⟩:=r1
      exact ⟨p,rfl,⟨vs,hsq⟩,q _ H' fp s (Zb9 r0) (Rep.dom _ _ _ r) ⟨c.1,fun z=>(by cases z)⟩⟩
    . cases e
noncomputable def Z4h:List D -> Option (List D)
  | [.int j]=>if -(2 ^ 62) <= j /\ j < 2 ^ 62 then some ((List.range j.toNat).map fun (k:Nat)=>.int (0 + (k:Int))) else none
  | _=>none
theorem Z3G {tg:Expr} {p:Pos} (hg:Gl X "range") (hm:X.mg "range" = none) (ha:QA X m1 rs1 [a] fs) (hs:starEach [a] X.env=[(false,eval a X.env)]:=by rfl):QI X tg rs (.Call (.Name "range" p) [a] [] pos) (fun env=>(fs env).bind Z4h) :=
  .mk (ZaD hg hm ha hs) fun σ H R ⟨env,F,ds,ok,e,q⟩=>by
    cases h1:fs env with
    | none=>simp only [h1] at e; cases e
    | some xs =>
      simp only [h1,Option.bind_some] at e
      unfold Z4h at e
      split at e
      . rename_i j
        split at e
        . rename_i hj
          cases e
          refine ⟨env,F,_,ok,h1,fun vs H' fp s r c=>?_⟩
          obtain ⟨v,rfl,r1⟩:=Z4o r
          rw [Z0B r1]
          exact ⟨j,rfl,hj.1,hj.2,q _ H' [] s (Z8o 0 _) (fun b hb=>(by cases hb)) .nil⟩
        . cases e
      . cases e
noncomputable def Z4i:List D -> Option (List D)
  | [.lst ds]=>some (ds.mapIdx fun i d=>.tup [.int i,d])
  | _=>none
theorem Z5r {elts:List Expr} {k1:Nat} {tpos p:Pos} (hg:Gl X "enumerate") (hm:X.mg "enumerate" = none) (ha:QA X m1 rs [a] fs) (hs:starEach [a] X.env=[(false,eval a X.env)]:=by rfl):QI X (.Tuple elts k1 tpos) rs (.Call (.Name "enumerate" p) [a] [] pos) (fun env=>(fs env).bind Z4i) :=
  .mk (ZdQ hg hm ha hs) fun σ H R ⟨env,F,ds,ok,e,q⟩=>by
    cases h1:fs env with
    | none=>simp only [h1] at e; cases e
    | some xs =>
      simp only [h1,Option.bind_some] at e
      unfold Z4i at e
      split at e
      . cases e
        refine ⟨env,F,_,ok,h1,fun vs H' fp s r c=>?_⟩
        obtain ⟨v,rfl,r1⟩:=Z4o r
        have r0:=Rep.weak _ _ _ r1
        have dm:=Rep.dom _ _ _ r1
        obtain ⟨p,ws,fp',rfl,hsq,hr,hsub⟩:=Z0N r1
        exact ⟨p,rfl,⟨ws,hsq⟩,q _ H' fp s (Z9L r0) dm ⟨c.1,fun z=>(by cases z)⟩⟩
      . cases e
noncomputable def Z2f (fc:En -> Option Bool) (fe:En -> Option D) (env:En):List D -> Option (List D)
  | []=>some []
  | d :: r=>match fc (some (false,d) :: env) with
    | some true=>match fe (some (false,d) :: env),Z2f fc fe env r with
      | some y,some ys=>some (y :: ys)
      | _,_=>none
    | some false=>Z2f fc fe env r
    | none=>none
noncomputable def enIn (fr:List Nat) (env:En):En:=fr.map fun j=>(env[j]?).join
noncomputable def Z1E (fr:List Nat) (src:En -> Option (List D)) (fc:En -> Option Bool) (fe:En -> Option D):En -> Option D:=fun env=>match src env with
  | some ds=>if ds.length <= 1000 then (Z2f fc fe (enIn fr env) ds).map .lst else none
  | none=>none
noncomputable def fTT:En -> Option Bool:=fun _=>some true
theorem Z4S {fc:En -> Option Bool} {fe:En -> Option D} {env:En}:∀ {ds:List D} {ys:List D} {i:Nat} {d:D} {zs:List D},ds[i]? = some d -> Z2f fc fe env ds=some ys -> Z2f fc fe env (ds.take i)=some zs ->
    (fc (some (false,d) :: env)=some true /\ ∃ y,fe (some (false,d) :: env)=some y /\ Z2f fc fe env (ds.take (i + 1))=some (zs ++ [y])) \/ (fc (some (false,d) :: env)=some false /\ Z2f fc fe env (ds.take (i + 1))=some zs)
  | [],ys,i,d,zs,h,_,_=>by simp at h
  | d' :: ds,ys,0,d,zs,h,h1,h2=>by
    simp at h
    subst h
    simp only [List.take_zero,Z2f] at h2
    cases h2
    unfold Z2f at h1
    simp only [Nat.zero_add,List.take_succ_cons,List.take_zero,Z2f]
    split at h1
    . rename_i hc
      split at h1
      . rename_i y ys' e1 e2
        exact .inl ⟨hc,y,e1,by simp [hc,e1]⟩
      . cases h1
    . rename_i hc
      exact .inr ⟨hc,by simp [hc]⟩
    . cases h1
  | d' :: ds,ys,i + 1,d,zs,h,h1,h2=>by
    have h':ds[i]? = some d:=by simpa using h
    unfold Z2f at h1
    simp only [List.take_succ_cons] at h2 ⊢
    unfold Z2f at h2
    split at h1
    . rename_i hc
      split at h1
      . rename_i y ys' e1 e2
        simp only [hc,e1] at h2
        cases h3:Z2f fc fe env (ds.take i) with
        | none=>rw [h3] at h2; cases h2
        | some z' =>
          rw [h3] at h2
          cases h2
          rcases Z4S h' e2 h3 with ⟨a1,y',a2,a3⟩ | ⟨a1,a2⟩
          . exact .inl ⟨a1,y',a2,by unfold Z2f; simp [hc,e1,a3]⟩
          . exact .inr ⟨a1,by unfold Z2f; simp [hc,e1,a2]⟩
      . cases h1
    . rename_i hc
      simp only [hc] at h2
      rcases Z4S h' h1 h2 with ⟨a1,y',a2,a3⟩ | ⟨a1,a2⟩
      . exact .inl ⟨a1,y',a2,by unfold Z2f; simp [hc,a3]⟩
      . exact .inr ⟨a1,by unfold Z2f; simp [hc,a2]⟩
    . cases h1
theorem Z5V {fc:En -> Option Bool} {fe:En -> Option D} {env:En}:∀ {ds ys:List D},Z2f fc fe env ds=some ys -> ys.length <= ds.length
  | [],ys,h=>by simp only [Z2f] at h; cases h; exact Nat.le_refl _
  | d :: ds,ys,h=>by
    unfold Z2f at h
    split at h
    . split at h
      . rename_i y ys' e1 e2
        cases h
        simp only [List.length_cons]
        exact Nat.succ_le_succ (Z5V e2)
      . cases h
    . exact Nat.le_succ_of_le (Z5V h)
    . cases h
end
theorem ZcC {K:Frag} {H:Hp} {σ:L2.St} {env:En} {F:Nat -> List Addr} {fr:List Nat} {d:D} {v:V} {f:List Addr} (ok:EnvOk K H σ env F) (r:Rep K false H d v f) :
    ∃ F',EnvOk K H ((stIn 1 fr σ).set 0 (some v)) (some (false,d) :: enIn fr env) F':=by
  refine ⟨fun i=>match i with | 0=>f | i + 1=>F (fr.getD i 0),fun i o d' e=>?_⟩
  cases i with
  | zero =>
    simp at e
    obtain ⟨_,rfl⟩:=e
    exact ⟨v,by simp [stIn],r⟩
  | succ i =>
    simp only [List.getElem?_cons_succ,enIn,List.getElem?_map] at e
    cases hj:fr[i]? with
    | none=>rw [hj] at e; cases e
    | some j =>
      rw [hj] at e
      simp only [Option.map_some,Option.some.injEq] at e
      cases hq:env[j]? with
      | none=>rw [hq] at e; cases e
      | some s =>
        rw [hq] at e
        simp only [Option.join_some] at e
        subst e
        obtain ⟨w,h1,h2⟩:=ok j o d' hq
        refine ⟨w,?_,?_⟩
        . simp [stIn,hj,h1]
        . have:fr.getD i 0=j:=by simp [List.getD,hj]
          simp only [this]
          exact h2
section
variable {X:Cx} {m m' m1 m2:Bool} {rs rs' rs1 rs2:List Nat} {elt iter:Expr} {ifs:List Expr} {scope:Scope} {pos px:Pos} {x:Str} {fr:List Nat} {src:En -> Option (List D)} {fc:En -> Option Bool} {fe:En -> Option D}
noncomputable def QTs (X:Cx) (ifs:List Expr) (f:En -> Option Bool):Prop:=PTs X ifs (tDT X.K f)
theorem Z2u:QTs X [] fTT:=fun pins s σ H Q I ⟨env,F,b,ok,e,q⟩=>ZdF pins s σ H Q I (by cases e; exact q H (Same.refl H))
theorem Zdu {c:Expr} {g:En -> Option Bool} (h:QT X c g):QTs X [c] g:=fun pins s σ H Q I q=>ZdE h pins s σ H Q I q
theorem Z7S {K:Frag} {σ:L2.St} {H:Hp} {Q:VK} (h:tD K true [] (Z1E fr src fc fe) σ H Q) :
    Zdk (tDI K rs src) 1 fr (Z9O 0) (tDT K fc) (tD K true [] fe) σ H Q:=by
  obtain ⟨env,F,d,ok,e,q⟩:=h
  unfold Z1E at e
  cases h1:src env with
  | none=>rw [h1] at e; cases e
  | some ds =>
    rw [h1] at e
    simp only at e
    split at e
    . rename_i hlen
      cases h2:Z2f fc fe (enIn fr env) ds with
      | none=>rw [h2] at e; cases e
      | some ys =>
        rw [h2] at e
        cases e
        refine ⟨env,F,ds,ok,h1,fun J H1 fp s1 gv dm cd=>?_⟩
        intro acc hacc
        refine ⟨fun i k vs H2=>i <= ds.length /\ k=ds.length - i /\ H2 acc=some (.lst vs) /\ Same H1 H2 /\ ∃ zs f,Z2f fc fe (enIn fr env) (ds.take i)=some zs /\ Reps K true H2 zs vs f /\ f.Nodup /\ (∀ b ∈ f,H1 b=none) /\ acc ∉ f,
          ⟨ds.length,Nat.zero_le _,rfl,Z0A,Z0O hacc,[],[],by simp [Z2f],by simp only [Reps]; exact ⟨trivial,trivial⟩,List.nodup_nil,fun b hb=>(by cases hb),by simp⟩,?_⟩
        rintro i k vs H2 ⟨hi,hk,ha,sm,zs,f,hz,hr,nd,hfr,hna⟩
        refine ⟨ha,?_⟩
        have gi:=gv H2 (Kp.same sm fp) i
        by_cases hlt:i < ds.length
        . right
          have hd:ds[i]? = some ds[i]:=List.getElem?_eq_getElem hlt
          obtain ⟨go,hy⟩:=gi.1 _ hd
          refine ⟨go,fun x H3 y3=>?_⟩
          obtain ⟨sm3,f3,r3,_⟩:=hy x H3 y3
          refine ⟨⟨by simp [stIn],by simp [stIn]⟩,?_⟩
          have ok3:EnvOk K H3 σ env F:=ok.same ((s1.trans sm).trans sm3)
          obtain ⟨F',okin⟩:=ZcC (fr:=fr) ok3 r3
          rcases Z4S hd h2 hz with ⟨c1,y',c2,c3⟩ | ⟨c1,c2⟩
          . refine ⟨_,F',true,okin,c1,fun H4 s4=>iteT ⟨_,F',y',okin.same s4,c2,fun v H5 fp5 s5 r5 c5=>?_⟩⟩
            have s25:Same H2 H5:=(sm3.trans s4).trans s5
            have s35:Same H4 H5:=s5
            have ha5:H5 acc=some (.lst vs):=s25 _ _ ha
            have hna5:acc ∉ fp5:=fun z=>by
              have:=(c5.2 rfl).2 acc z
              rw [(sm3.trans s4) _ _ ha] at this
              cases this
            have lv:vs.length < 1000:=by
              have:=Z5V hz
              have h4:=hr.length
              rw [List.length_take] at this
              omega
            refine ⟨vs,ha5,Z4m (Nat.le_of_lt lv),ds.length - (i + 1),by omega,hlt,rfl,Z0A,?_,zs ++ [y'],f ++ fp5,c3,?_,?_,?_,?_⟩
            . intro b o hb
              have hba:b ≠ acc:=Z0s hb hacc
              rw [Z0u hba]
              exact s25 _ _ (sm _ _ hb)
            . have e1:=Reps.keep _ _ _ (Kp.upd (o':=.lst (vs ++ [v])) ha5 (by intro xs z; cases z) (by intro a b z; cases z) hna) (hr.same s25)
              have e2:=Rep.keep _ _ _ (Kp.upd (o':=.lst (vs ++ [v])) ha5 (by intro xs z; cases z) (by intro a b z; cases z) hna5) r5
              exact e1.snoc e2
            . refine List.nodup_append.mpr ⟨nd,(c5.2 rfl).1,fun a ha' b hb z=>?_⟩
              obtain ⟨o,ho⟩:=Reps.dom _ _ _ hr a ha'
              have:=(c5.2 rfl).2 b hb
              rw [<- z,(sm3.trans s4) _ _ ho] at this
              cases this
            . intro b hb
              rcases List.mem_append.mp hb with z | z
              . exact hfr b z
              . exact ((sm.trans sm3).trans s4).free ((c5.2 rfl).2 b z)
            . intro z
              rcases List.mem_append.mp z with z | z
              . exact hna z
              . exact hna5 z
          . refine ⟨_,F',false,okin,c1,fun H4 s4=>iteF ⟨ds.length - (i + 1),vs,by omega,hlt,rfl,(sm3.trans s4) _ _ ha,(sm.trans sm3).trans s4,zs,f,c2,hr.same (sm3.trans s4),nd,hfr,hna⟩⟩
        . left
          have hi':i=ds.length:=by omega
          refine ⟨gi.2 (by omega),?_⟩
          have hz':Z2f fc fe (enIn fr env) ds=some zs:=by rw [hi',List.take_length] at hz; exact hz
          rw [h2] at hz'
          cases hz'
          refine q _ H2 (acc :: f) (s1.trans sm) ?_ ⟨fun b hb=>?_,fun _=>⟨List.nodup_cons.mpr ⟨hna,nd⟩,fun b hb=>?_⟩⟩
          . simp only [Rep]
            exact ⟨acc,vs,f,rfl,hr,.inl ⟨rfl,ha⟩⟩
          . rcases List.mem_cons.mp hb with z | z
            . exact .inl (by rw [z]; exact s1.free hacc)
            . exact .inl (s1.free (hfr b z))
          . rcases List.mem_cons.mp hb with z | z
            . rw [z]; exact s1.free hacc
            . exact s1.free (hfr b z)
    . cases e
theorem Z2Z (hc:X.calm=true) (chk:Z31 X.env.scope X.N scope fr=true) (hi:QI X (.Name x px) rs iter src)
    (hnd:(Z30 [x] fr X.N).Nodup) (hx:scope.names.lookup x=some .local)
    (ht:∀ cl C s0 H0 ex pins,QTs (Z2R X (Z30 [x] fr X.N) scope cl C s0 H0 ex pins) ifs fc)
    (he:∀ cl C s0 H0 ex pins,QE (Z2R X (Z30 [x] fr X.N) scope cl C s0 H0 ex pins) true [] elt fe)
    (hs:∀ x,foldedSetIterable iter X.env x=pure x:=by intro _; rfl) :
    QE X true [] (.ListComp elt [⟨.Name x px,iter,ifs,0⟩] scope pos) (Z1E fr src fc fe) :=
  .mk (ZdT (tgs:=[x]) (tt:=tDT X.K fc) (te:=tD X.K true [] fe) hc chk hi (fun cl C s0 H0 ex pins=>Z1G (i:=0) hnd rfl (.inl (lookup_relabel_local hx)) (.inr (lookup_relabel_local hx))) ht he hs) fun σ H Q h=>Z7S h
end
structure EnvS (K:Frag) (P H:Hp) (σ:L2.St) (env:En) (F:Nat -> List Addr):Prop where
  ok:EnvOk K H σ env F
  own:∀ i d,env[i]? = some (some (true,d)) -> (F i).Nodup /\ (∀ b ∈ F i,P b=none) /\ (∀ v,σ[i]? = some (some v) -> Rep K true H d v (F i)) /\ ∀ j s,j ≠ i -> env[j]? = some (some s) -> ∀ b ∈ F i,b ∉ F j
structure SInv (K:Frag) (P H:Hp) (σ:L2.St) (env:En):Prop where
  same:Same P H
  len:σ.length=env.length
  ex:∃ F,EnvS K P H σ env F
theorem EnvS.dom {K:Frag} {P H:Hp} {σ:L2.St} {env:En} {F:Nat -> List Addr} (h:EnvS K P H σ env F) {i:Nat} {s:Bool × D} (e:env[i]? = some (some s)):∀ b ∈ F i,∃ o,H b=some o:=by
  obtain ⟨o,d⟩:=s
  obtain ⟨v,_,r⟩:=h.ok i o d e
  exact Rep.dom _ _ _ r
theorem EnvS.grow {K:Frag} {P H H':Hp} {σ:L2.St} {env:En} {F:Nat -> List Addr} (h:EnvS K P H σ env F) (s:Same H H'):EnvS K P H' σ env F :=
  ⟨h.ok.same s,fun i d e=>let ⟨a,b,c,q⟩:=h.own i d e; ⟨a,b,fun v hv=>(c v hv).same s,q⟩⟩
theorem SInv.grow {K:Frag} {P H H':Hp} {σ:L2.St} {env:En} (h:SInv K P H σ env) (s:Same H H'):SInv K P H' σ env :=
  ⟨h.same.trans s,h.len,let ⟨F,hF⟩:=h.ex; ⟨F,hF.grow s⟩⟩
inductive Res where
  | next (env:En) | ret (d:D) | brk (env:En) | cont (env:En) | bad
noncomputable def Post (K:Frag) (P:Hp) (E:Ends):Res -> Prop
  | .next env=>∀ σ H,SInv K P H σ env -> E.nx σ H
  | .ret d=>∀ v H fp,Same P H -> Rep K true H d v fp -> (∀ b ∈ fp,P b=none) -> fp.Nodup -> E.rt v H
  | .brk env=>∀ σ H,SInv K P H σ env -> E.bk σ H
  | .cont env=>∀ σ H,SInv K P H σ env -> E.ct σ H
  | .bad=>False
noncomputable def tDS (K:Frag) (g:En -> Res):TS:=fun E σ H=>∃ P env,SInv K P H σ env /\ Post K P E (g env)
noncomputable def QS (X:Cx) (st:Stmt) (g:En -> Res):Prop:=PS X st (tDS X.K g)
noncomputable def QSs (X:Cx) (st:List Stmt) (g:En -> Res):Prop:=PSs X st (tDS X.K g)
theorem QS.mk {X:Cx} {st:Stmt} {g:En -> Res} {t:TS} (h:PS X st t) (hi:∀ E σ H,tDS X.K g E σ H -> t E σ H):QS X st g:=fun pins s σ H E I q=>h pins s σ H E I (hi E σ H q)
theorem QSs.mk {X:Cx} {st:List Stmt} {g:En -> Res} {t:TS} (h:PSs X st t) (hi:∀ E σ H,tDS X.K g E σ H -> t E σ H):QSs X st g:=fun pins s σ H E I q=>h pins s σ H E I (hi E σ H q)
noncomputable def fset (F:Nat -> List Addr) (i:Nat) (f:List Addr):Nat -> List Addr:=fun j=>if j=i then f else F j
theorem Z0z {F:Nat -> List Addr} {i:Nat} {f:List Addr}:fset F i f i=f:=if_pos rfl
theorem Z0o {F:Nat -> List Addr} {i j:Nat} {f:List Addr} (h:j ≠ i):fset F i f j=F j:=if_neg h
theorem Z1B {α:Type} {l:List α} {i j:Nat} {x:α} (h:i < l.length):(l.set i x)[j]? = if j=i then some x else l[j]?:=by
  by_cases e:j=i
  . subst e; rw [if_pos rfl,List.getElem?_set_self h]
  . rw [if_neg e,List.getElem?_set_ne (Ne.symm e)]
theorem Z7e {K:Frag} {P H H':Hp} {σ:L2.St} {env:En} {F:Nat -> List Addr} {d:D} {v:V} {fp:List Addr} (i:Nat) (sm:Same P H) (hl:σ.length=env.length) (h:EnvS K P H σ env F) (s:Same H H') (r:Rep K true H' d v fp) (nd:fp.Nodup) (fr:∀ b ∈ fp,H b=none) :
    SInv K P H' (σ.set i (some v)) (env.set i (some (true,d))):=by
  refine ⟨sm.trans s,by simp [hl],fset F i fp,?_,?_⟩
  . intro j o d' e
    by_cases hi:i < env.length
    . rw [Z1B hi] at e
      by_cases hj:j=i
      . subst hj
        rw [if_pos rfl] at e
        cases e
        exact ⟨v,List.getElem?_set_self (by omega),by rw [Z0z]; exact Rep.weak _ _ _ r⟩
      . rw [if_neg hj] at e
        obtain ⟨w,h1,h2⟩:=h.ok j o d' e
        exact ⟨w,by rw [List.getElem?_set_ne (Ne.symm hj)]; exact h1,by rw [Z0o hj]; exact h2.same s⟩
    . rw [List.set_eq_of_length_le (by omega)] at e
      have hj:j ≠ i:=fun z=>by rw [z,List.getElem?_eq_none (by omega)] at e; cases e
      obtain ⟨w,h1,h2⟩:=h.ok j o d' e
      exact ⟨w,by rw [List.getElem?_set_ne (Ne.symm hj)]; exact h1,by rw [Z0o hj]; exact h2.same s⟩
  . intro j d' e
    by_cases hi:i < env.length
    . rw [Z1B hi] at e
      by_cases hj:j=i
      . subst hj
        rw [if_pos rfl] at e
        cases e
        refine ⟨by rw [Z0z]; exact nd,fun b hb=>?_,fun w hw=>?_,fun k s' hk ek b hb=>?_⟩
        . rw [Z0z] at hb
          cases hP:P b with
          | none=>rfl
          | some o=>have:=sm _ _ hP; rw [fr b hb] at this; cases this
        . rw [List.getElem?_set_self (by omega)] at hw
          cases hw
          rw [Z0z]; exact r
        . rw [Z0z] at hb
          rw [Z0o hk]
          rw [Z1B hi,if_neg hk] at ek
          intro z
          obtain ⟨o,ho⟩:=h.dom ek b z
          rw [fr b hb] at ho; cases ho
      . rw [if_neg hj] at e
        obtain ⟨a1,a2,a3,a4⟩:=h.own j d' e
        refine ⟨by rw [Z0o hj]; exact a1,fun b hb=>a2 b (by rw [Z0o hj] at hb; exact hb),fun w hw=>?_,fun k s' hk ek b hb=>?_⟩
        . rw [List.getElem?_set_ne (Ne.symm hj)] at hw
          rw [Z0o hj]; exact (a3 w hw).same s
        . rw [Z0o hj] at hb
          rw [Z1B hi] at ek
          by_cases hki:k=i
          . subst hki
            rw [Z0z]
            intro z
            obtain ⟨o,ho⟩:=h.dom e b hb
            rw [fr b z] at ho; cases ho
          . rw [if_neg hki] at ek
            rw [Z0o hki]
            exact a4 k s' hk ek b hb
    . rw [List.set_eq_of_length_le (by omega)] at e
      have hj:j ≠ i:=fun z=>by rw [z,List.getElem?_eq_none (by omega)] at e; cases e
      obtain ⟨a1,a2,a3,a4⟩:=h.own j d' e
      refine ⟨by rw [Z0o hj]; exact a1,fun b hb=>a2 b (by rw [Z0o hj] at hb; exact hb),fun w hw=>?_,fun k s' hk ek b hb=>?_⟩
      . rw [List.getElem?_set_ne (Ne.symm hj)] at hw
        rw [Z0o hj]; exact (a3 w hw).same s
      . rw [Z0o hj] at hb
        rw [List.set_eq_of_length_le (by omega)] at ek
        have hki:k ≠ i:=fun z=>by rw [z,List.getElem?_eq_none (by omega)] at ek; cases ek
        rw [Z0o hki]
        exact a4 k s' hk ek b hb
theorem ZbQ {K:Frag} {P H H':Hp} {σ:L2.St} {env:En} {F:Nat -> List Addr} {d:D} {v:V} {fp:List Addr} (i:Nat) (sm:Same P H) (hl:σ.length=env.length) (h:EnvS K P H σ env F) (s:Same H H') (r:Rep K false H' d v fp)
    (fr:∀ j d',env[j]? = some (some (true,d')) -> ∀ b ∈ F j,b ∉ fp):SInv K P H' (σ.set i (some v)) (env.set i (some (false,d))):=by
  refine ⟨sm.trans s,by simp [hl],fset F i fp,?_,?_⟩
  . intro j o d' e
    by_cases hi:i < env.length
    . rw [Z1B hi] at e
      by_cases hj:j=i
      . subst hj
        rw [if_pos rfl] at e
        cases e
        exact ⟨v,List.getElem?_set_self (by omega),by rw [Z0z]; exact r⟩
      . rw [if_neg hj] at e
        obtain ⟨w,h1,h2⟩:=h.ok j o d' e
        exact ⟨w,by rw [List.getElem?_set_ne (Ne.symm hj)]; exact h1,by rw [Z0o hj]; exact h2.same s⟩
    . rw [List.set_eq_of_length_le (by omega)] at e
      have hj:j ≠ i:=fun z=>by rw [z,List.getElem?_eq_none (by omega)] at e; cases e
      obtain ⟨w,h1,h2⟩:=h.ok j o d' e
      exact ⟨w,by rw [List.getElem?_set_ne (Ne.symm hj)]; exact h1,by rw [Z0o hj]; exact h2.same s⟩
  . intro j d' e
    have hji:j ≠ i:=by
      rintro rfl
      by_cases hi:j < env.length
      . rw [Z1B hi,if_pos rfl] at e; cases e
      . rw [List.set_eq_of_length_le (by omega),List.getElem?_eq_none (by omega)] at e; cases e
    rw [List.getElem?_set_ne (Ne.symm hji)] at e
    obtain ⟨a1,a2,a3,a4⟩:=h.own j d' e
    refine ⟨by rw [Z0o hji]; exact a1,fun b hb=>a2 b (by rw [Z0o hji] at hb; exact hb),fun w hw=>?_,fun k s' hk ek b hb=>?_⟩
    . rw [List.getElem?_set_ne (Ne.symm hji)] at hw
      rw [Z0o hji]; exact (a3 w hw).same s
    . rw [Z0o hji] at hb
      by_cases hki:k=i
      . subst hki
        rw [Z0z]
        exact fr j d' e b hb
      . rw [List.getElem?_set_ne (Ne.symm hki)] at ek
        rw [Z0o hki]
        exact a4 k s' hk ek b hb
noncomputable def fz1 (r:Nat) (env:En):En:=match env[r]? with
  | some (some (_,d))=>env.set r (some (false,d))
  | _=>env
noncomputable def fz:List Nat -> En -> En
  | [],env=>env
  | r :: rs,env=>fz rs (fz1 r env)
theorem Zee {r:Nat} {env:En}:(fz1 r env).length=env.length:=by
  unfold fz1; split <;> simp
theorem Zbf {r j:Nat} {env:En}:(fz1 r env)[j]? = if j=r then (env[j]?).map (Option.map fun p=>(false,p.2)) else env[j]?:=by
  unfold fz1
  split
  . rename_i o d h
    have hr:r < env.length:=(List.getElem?_eq_some_iff.mp h).1
    rw [Z1B hr]
    by_cases hj:j=r
    . subst hj; simp [h]
    . simp [hj]
  . rename_i h
    by_cases hj:j=r
    . subst hj
      rw [if_pos rfl]
      cases h1:env[j]? with
      | none=>rfl
      | some o =>
        cases o with
        | none=>rfl
        | some p=>exact absurd h1 (h p.1 p.2)
    . rw [if_neg hj]
theorem EnvS.fz1 {K:Frag} {P H:Hp} {σ:L2.St} {env:En} {F:Nat -> List Addr} (r:Nat) (h:EnvS K P H σ env F):EnvS K P H σ (PD.fz1 r env) F:=by
  have back:∀ {j:Nat} {o:Bool} {d:D},(PD.fz1 r env)[j]? = some (some (o,d)) -> ∃ o',env[j]? = some (some (o',d)) /\ (j=r -> o=false) /\ (j ≠ r -> o'=o):=by
    intro j o d e
    rw [Zbf] at e
    by_cases hj:j=r
    . rw [if_pos hj] at e
      cases h1:env[j]? with
      | none=>rw [h1] at e; cases e
      | some s =>
        cases s with
        | none=>rw [h1] at e; cases e
        | some p =>
          rw [h1] at e
          cases e
          exact ⟨p.1,rfl,fun _=>rfl,fun z=>absurd hj z⟩
    . rw [if_neg hj] at e
      exact ⟨o,e,fun z=>absurd z hj,fun _=>rfl⟩
  refine ⟨fun j o d e=>?_,fun j d e=>?_⟩
  . obtain ⟨o',h1,_⟩:=back e
    exact h.ok j o' d h1
  . obtain ⟨o',h1,h2,h3⟩:=back e
    have hj:j ≠ r:=fun z=>by cases h2 z
    have:=h3 hj
    subst this
    obtain ⟨a1,a2,a3,a4⟩:=h.own j d h1
    refine ⟨a1,a2,a3,fun k s hk ek b hb=>?_⟩
    obtain ⟨o2,d2⟩:=s
    obtain ⟨o3,h4,_⟩:=back ek
    exact a4 k _ hk h4 b hb
theorem EnvS.fz {K:Frag} {P H:Hp} {σ:L2.St} {F:Nat -> List Addr}:∀ (rs:List Nat) {env:En},EnvS K P H σ env F -> EnvS K P H σ (PD.fz rs env) F
  | [],_,h=>h
  | r :: rs,_,h=>EnvS.fz rs (h.fz1 r)
theorem Zbe:∀ (rs:List Nat) {env:En},(fz rs env).length=env.length
  | [],_=>rfl
  | r :: rs,env=>by show (fz rs (fz1 r env)).length=_; rw [Zbe rs,Zee]
theorem Zd5:∀ (rs:List Nat) {env:En} {j:Nat} {d:D},(fz rs env)[j]? = some (some (true,d)) -> j ∉ rs /\ env[j]? = some (some (true,d))
  | [],env,j,d,e=>⟨by simp,e⟩
  | r :: rs,env,j,d,e=>by
    obtain ⟨h1,h2⟩:=Zd5 rs (env:=fz1 r env) e
    rw [Zbf] at h2
    by_cases hj:j=r
    . rw [if_pos hj] at h2
      cases h3:env[j]? with
      | none=>rw [h3] at h2; cases h2
      | some s =>
        cases s with
        | none=>rw [h3] at h2; cases h2
        | some p=>rw [h3] at h2; cases h2
    . rw [if_neg hj] at h2
      exact ⟨by simp [hj,h1],h2⟩
noncomputable def nrm (env:En) (F:Nat -> List Addr):Nat -> List Addr:=fun i=>match env[i]? with | some (some _)=>F i | _=>[]
theorem Z6R {env:En} {F:Nat -> List Addr} {i:Nat} {s:Bool × D} (h:env[i]? = some (some s)):nrm env F i=F i:=by unfold nrm; rw [h]
theorem Ze1 {env:En} {F:Nat -> List Addr} {i:Nat} {b:Addr} (h:b ∈ nrm env F i):∃ s,env[i]? = some (some s):=by
  unfold nrm at h
  split at h
  . rename_i s e; exact ⟨s,e⟩
  . cases h
theorem EnvS.nrm {K:Frag} {P H:Hp} {σ:L2.St} {env:En} {F:Nat -> List Addr} (h:EnvS K P H σ env F):EnvS K P H σ env (PD.nrm env F):=by
  refine ⟨fun i o d e=>by rw [Z6R e]; exact h.ok i o d e,fun i d e=>?_⟩
  obtain ⟨a1,a2,a3,a4⟩:=h.own i d e
  rw [Z6R e]
  exact ⟨a1,a2,a3,fun j s hj ej=>by rw [Z6R ej]; exact a4 j s hj ej⟩
section
variable {X:Cx} {m m' m1 m2:Bool} {rs rs' rs1 rs2:List Nat} {e a b c:Expr} {es rest:List Expr} {f fa fb fc:En -> Option D} {c':En -> Option Bool} {pos p pos':Pos} {st:Stmt} {sts:List Stmt} {g h:En -> Res} {i:Nat} {x:Str}
noncomputable def rSeq (g h:En -> Res):En -> Res:=fun env=>match g env with
  | .next env'=>h env'
  | r=>r
noncomputable def Z11:En -> Res:=.next
theorem Z0r:QSs X [] Z11:=.mk ZdH fun E σ H ⟨P,env,I,q⟩=>q σ H I
theorem Z05 (h1:QS X st g) (h2:QSs X sts h):QSs X (st :: sts) (rSeq g h):=.mk (Z6F h1 h2) fun E σ H ⟨P,env,I,q⟩=>by
  refine ⟨P,env,I,?_⟩
  unfold rSeq at q
  cases hg:g env with
  | next env'=>rw [hg] at q; exact fun σ' H' I'=>⟨P,env',I',q⟩
  | ret d=>rw [hg] at q; exact q
  | brk _=>rw [hg] at q; exact q
  | cont _=>rw [hg] at q; exact q
  | bad=>rw [hg] at q; exact q
theorem Z06 (h1:QS X st g):QSs X [st] g:=.mk (Zay h1) fun E σ H q=>q
noncomputable def rIf (c:En -> Option Bool) (g h:En -> Res):En -> Res:=fun env=>match c env with
  | some true=>g env
  | some false=>h env
  | none=>.bad
theorem Z1o {sa sb:List Stmt} (hc:QT X c c') (ha:QSs X sa g) (hb:QSs X sb h):QS X (.If c sa sb pos) (rIf c' g h):=.mk (ZfO hc ha hb) fun E σ H ⟨P,env,I,q⟩=>by
  obtain ⟨F,hF⟩:=I.ex
  unfold rIf at q
  split at q
  . rename_i h1
    exact ⟨env,F,true,hF.ok,h1,fun H' s=>iteT ⟨P,env,I.grow s,q⟩⟩
  . rename_i h1
    exact ⟨env,F,false,hF.ok,h1,fun H' s=>iteF ⟨P,env,I.grow s,q⟩⟩
  . exact q.elim
noncomputable def rRet (f:En -> Option D):En -> Res:=fun env=>match f env with
  | some d=>.ret d
  | none=>.bad
theorem Z0q (he:QE X true [] e f):QS X (.Return (some e) pos) (rRet f):=.mk (Zaz he) fun E σ H ⟨P,env,I,q⟩=>by
  obtain ⟨F,hF⟩:=I.ex
  unfold rRet at q
  split at q
  . rename_i d h1
    refine ⟨env,F,d,hF.ok,h1,fun v H' fp s r c=>q v H' fp (I.same.trans s) r (fun b hb=>?_) (c.2 rfl).1⟩
    cases hP:P b with
    | none=>rfl
    | some o=>have:=I.same _ _ hP; rw [(c.2 rfl).2 b hb] at this; cases this
  . exact q.elim
theorem Z4a (hN:X.N[i]? = some x:=by rfl) (hv:Vis X.env.scope x:=by first | exact Or.inl rfl | exact Or.inr (Or.inl rfl) | exact Or.inr (Or.inr rfl)) (hd:(x == ("__debug__" : Str))=false:=by decide) (hcd:(x == ("__classdict__" : Str))=false:=by decide) :
    QS X (.Return (some (.Name x p)) pos) (fun env=>match env[i]? with | some (some (true,d))=>.ret d | _=>.bad):=.mk (Zaz (Z4s hN hv hd hcd)) fun E σ H ⟨P,env,I,q⟩=>by
  obtain ⟨F,hF⟩:=I.ex
  simp only at q
  split at q
  . rename_i d h1
    obtain ⟨v,h2,_⟩:=hF.ok i true d h1
    obtain ⟨a1,a2,a3,_⟩:=hF.own i d h1
    exact ⟨v,h2,q v H _ I.same (a3 v h2) a2 a1⟩
  . exact q.elim
noncomputable def rSet (i:Nat) (f:En -> Option D):En -> Res:=fun env=>match f env with
  | some d=>.next (env.set i (some (true,d)))
  | none=>.bad
theorem Z7j {K:Frag} {E:Ends} {σ:L2.St} {H:Hp} {i:Nat} {f:En -> Option D} (h:tDS K (rSet i f) E σ H):tAsg (tD K true [] f) (Z9O i) E σ H:=by
  obtain ⟨P,env,I,q⟩:=h
  obtain ⟨F,hF⟩:=I.ex
  unfold rSet at q
  split at q
  . rename_i d h1
    exact ⟨env,F,d,hF.ok,h1,fun v H' fp s r c=>q _ H' (Z7e i I.same I.len hF s r (c.2 rfl).1 (c.2 rfl).2)⟩
  . exact q.elim
theorem Z0h (hN:X.N.Nodup) (hi:X.N[i]? = some x) (hx:Loc X.env.scope x) (he:QE X true [] e f) (hs:swapsWith e (some (.Name x pos')) pos.line X.env=pure false:=by rfl) (hf:X.fn x=true \/ X.env.scope.names.lookup x=some .local:=by first | exact .inl rfl | exact .inr rfl | assumption) :
    QS X (.Assign [.Name x pos'] e pos) (rSet i f):=.mk (ZcU hN hi hx he hs hf) fun E σ H q=>Z7j q
theorem Z4J {elt iter:Expr} {ifs:List Expr} {scope:Scope} {px spos:Pos} {y:Str} {fr:List Nat} {src:En -> Option (List D)} {fc:En -> Option Bool} {fe:En -> Option D}
    (hc:X.calm=true) (hN:X.N.Nodup) (hi':X.N[i]? = some x) (hx':Loc X.env.scope x) (chk:Z31 X.env.scope X.N scope fr=true) (hi:QI X (.Name y px) rs iter src)
    (hnd:(Z30 [y] fr X.N).Nodup) (hx:scope.names.lookup y=some .local)
    (ht:∀ cl C s0 H0 ex pins,QTs (Z2R X (Z30 [y] fr X.N) scope cl C s0 H0 ex pins) ifs fc)
    (he:∀ cl C s0 H0 ex pins,QE (Z2R X (Z30 [y] fr X.N) scope cl C s0 H0 ex pins) true [] elt fe)
    (hsw:swapsWith (.ListComp elt [⟨.Name y px,iter,ifs,0⟩] scope pos) (some (.Name x pos')) spos.line X.env=pure true:=by rfl)
    (hf:X.fn x=true \/ X.env.scope.names.lookup x=some .local:=by first | exact .inl rfl | exact .inr rfl | assumption)
    (hs:∀ x,foldedSetIterable iter X.env x=pure x:=by intro _; rfl) :
    QS X (.Assign [.Name x pos'] (.ListComp elt [⟨.Name y px,iter,ifs,0⟩] scope pos) spos) (rSet i (Z1E fr src fc fe)) :=
  .mk (Z9t (tgs:=[y]) (tt:=tDT X.K fc) (te:=tD X.K true [] fe) hc hN hi' hx' chk hi (fun cl C s0 H0 ex pins=>Z1G (i:=0) hnd rfl (.inl (lookup_relabel_local hx)) (.inr (lookup_relabel_local hx))) ht he hsw hf hs)
    fun E σ H q=>Z7S (Z7j q)
theorem Z8I {K:Frag} {P H:Hp} {σ:L2.St} {env:En} {F:Nat -> List Addr} {fp:List Addr} (hF:EnvS K P H σ env F) (c:Cond (nrm env F) H m rs fp):∀ j d',(fz rs env)[j]? = some (some (true,d')) -> ∀ b ∈ nrm env F j,b ∉ fp:=by
  intro j d' e b hb z
  obtain ⟨h1,h2⟩:=Zd5 rs e
  rcases c.1 b z with y | ⟨r,hr,y⟩
  . obtain ⟨o,ho⟩:=hF.nrm.dom h2 b hb
    rw [y] at ho; cases ho
  . obtain ⟨s,hs⟩:=Ze1 y
    exact (hF.nrm.own j d' h2).2.2.2 r s (fun z=>h1 (z ▸ hr)) hs b hb y
noncomputable def rApp (i:Nat) (f:En -> Option D):En -> Res:=fun env=>match f env,env[i]? with
  | some d,some (some (true,.lst ds))=>if ds.length <= 1000 then .next (env.set i (some (true,.lst (ds ++ [d])))) else .bad
  | _,_=>.bad
theorem Z78 {K:Frag} {P H:Hp} {σ:L2.St} {env:En} {F:Nat -> List Addr} {i:Nat} {ds ds':List D} {a:Addr} {vs vs':List V} {fp' fp2:List Addr} (sm:Same P H) (hl:σ.length=env.length) (h:EnvS K P H σ env F) (ei:env[i]? = some (some (true,.lst ds)))
    (hv:σ[i]? = some (some (.ref a))) (hF:F i=a :: fp') (ha:H a=some (.lst vs)) (r:Reps K true H ds' vs' fp2) (nd:(a :: fp2).Nodup) (hn:∀ b ∈ fp2,b ∈ fp' \/ (P b=none /\ ∀ j s,env[j]? = some (some s) -> b ∉ F j)) :
    SInv K P (upd H a (.lst vs')) σ (env.set i (some (true,.lst ds'))):=by
  have hi:i < env.length:=(List.getElem?_eq_some_iff.mp ei).1
  obtain ⟨o1,o2,o3,o4⟩:=h.own i _ ei
  have ha0:a ∈ F i:=by rw [hF]; exact List.mem_cons_self
  have kp:∀ {fp:List Addr},a ∉ fp -> Kp fp H (upd H a (.lst vs')):=fun hn=>Kp.upd ha (by intro xs z; cases z) (by intro x u z; cases z) hn
  have na:a ∉ fp2:=(List.nodup_cons.mp nd).1
  have new:∀ st,Rep K st (upd H a (.lst vs')) (.lst ds') (.ref a) (a :: fp2):=fun st=>by
    have r':=Reps.keep _ _ _ (kp na) r
    cases st with
    | true=>simp only [Rep]; exact ⟨a,vs',fp2,rfl,r',.inl ⟨rfl,Z0A⟩⟩
    | false=>simp only [Rep]; exact ⟨a,vs',fp2,rfl,Reps.weak _ _ _ r',.inl ⟨rfl,Z0A⟩⟩
  refine ⟨fun b o e=>?_,by simp [hl],fset F i (a :: fp2),fun j o d e=>?_,fun j d e=>?_⟩
  . have:b ≠ a:=fun z=>by have:=o2 a ha0; rw [z,this] at e; cases e
    rw [Z0u this]; exact sm _ _ e
  . rw [Z1B hi] at e
    by_cases hj:j=i
    . subst hj
      rw [if_pos rfl] at e
      cases e
      exact ⟨_,hv,by rw [Z0z]; exact new false⟩
    . rw [if_neg hj] at e
      obtain ⟨w,h1,h2⟩:=h.ok j o d e
      exact ⟨w,h1,by rw [Z0o hj]; exact Rep.keep _ _ _ (kp (o4 j _ hj e a ha0)) h2⟩
  . rw [Z1B hi] at e
    by_cases hj:j=i
    . subst hj
      rw [if_pos rfl] at e
      cases e
      refine ⟨by rw [Z0z]; exact nd,fun b hb=>?_,fun w hw=>?_,fun k s hk ek b hb=>?_⟩
      . rw [Z0z] at hb
        rcases List.mem_cons.mp hb with z | z
        . rw [z]; exact o2 a ha0
        . rcases hn b z with y | y
          . exact o2 b (by rw [hF]; exact List.mem_cons_of_mem _ y)
          . exact y.1
      . rw [hv] at hw
        cases hw
        rw [Z0z]; exact new true
      . rw [Z0z] at hb
        rw [Z0o hk]
        rw [Z1B hi,if_neg hk] at ek
        rcases List.mem_cons.mp hb with z | z
        . rw [z]; exact o4 k s hk ek a ha0
        . rcases hn b z with y | y
          . exact o4 k s hk ek b (by rw [hF]; exact List.mem_cons_of_mem _ y)
          . exact y.2 k s ek
    . rw [if_neg hj] at e
      obtain ⟨a1,a2,a3,a4⟩:=h.own j d e
      refine ⟨by rw [Z0o hj]; exact a1,fun b hb=>a2 b (by rw [Z0o hj] at hb; exact hb),fun w hw=>by rw [Z0o hj]; exact Rep.keep _ _ _ (kp (o4 j _ hj e a ha0)) (a3 w hw),fun k s hk ek b hb=>?_⟩
      rw [Z0o hj] at hb
      rw [Z1B hi] at ek
      by_cases hki:k=i
      . subst hki
        rw [Z0z]
        intro z
        rcases List.mem_cons.mp z with z | z
        . exact a4 k _ hk ei b hb (by rw [z]; exact ha0)
        . rcases hn b z with y | y
          . exact a4 k _ hk ei b hb (by rw [hF]; exact List.mem_cons_of_mem _ y)
          . exact y.2 j _ e hb
      . rw [if_neg hki] at ek
        rw [Z0o hki]
        exact a4 k s hk ek b hb
theorem Zaq {apos cpos:Pos} (hN:X.N[i]? = some x) (hv:Vis X.env.scope x) (he:QE X true [] e f) (hd:(x == ("__debug__" : Str))=false:=by decide) (hcd:(x == ("__classdict__" : Str))=false:=by decide)
    (hst:starEach [e] X.env=(false,eval e X.env) :: starEach [] X.env:=by rfl)
    (hpe:PE X (.Call (.Attribute (.Name x p) "append" apos) [e] [] cpos) (tBM X.K "list" Zak (tVar i) (ZeB (tD X.K true [] f) tNil)))
    (hs:swapsWith (.Call (.Attribute (.Name x p) "append" apos) [e] [] cpos) none pos.line X.env=pure false:=by rfl) :
    QS X (.Expr (.Call (.Attribute (.Name x p) "append" apos) [e] [] cpos) pos) (rApp i f):=.mk (ZdI hpe hs) fun E σ H ⟨P,env,I,q⟩=>by
  obtain ⟨F,hF⟩:=I.ex
  unfold rApp at q
  split at q
  . rename_i d ds h1 h2
    split at q
    . rename_i hl
      obtain ⟨v,hv1,_⟩:=hF.ok i true _ h2
      obtain ⟨o1,o2,o3,o4⟩:=hF.own i _ h2
      obtain ⟨a,vs,fp',rfl,hFi,ha,hr⟩:=Z3S (o3 v hv1)
      refine ⟨.ref a,hv1,.inl ⟨rfl,vs,SqL.of ha⟩,env,F,d,hF.ok,h1,fun v' H' fp s r c=>?_⟩
      have ha':=s _ _ ha
      refine ⟨a,vs,v',rfl,rfl,ha',Z4m (by rw [hr.length]; exact hl),q _ _ ?_⟩
      refine Z78 (fp2:=fp' ++ fp) (I.same.trans s) I.len (hF.grow s) h2 hv1 hFi ha' ((hr.same s).snoc r) ?_ ?_
      . rw [hFi] at o1
        obtain ⟨n1,n2⟩:=List.nodup_cons.mp o1
        refine List.nodup_cons.mpr ⟨fun z=>?_,List.nodup_append.mpr ⟨n2,(c.2 rfl).1,fun b hb b' hb' z=>?_⟩⟩
        . rcases List.mem_append.mp z with z | z
          . exact n1 z
          . have:=(c.2 rfl).2 a z; rw [ha] at this; cases this
        . obtain ⟨o,ho⟩:=Reps.dom _ _ _ hr b hb
          have:=(c.2 rfl).2 b' hb'
          rw [<- z,ho] at this; cases this
      . intro b hb
        rcases List.mem_append.mp hb with z | z
        . exact .inl z
        . refine .inr ⟨I.same.free ((c.2 rfl).2 b z),fun j s' ej hz=>?_⟩
          obtain ⟨o,ho⟩:=hF.dom ej b hz
          rw [(c.2 rfl).2 b z] at ho; cases ho
    . exact q.elim
  . exact q.elim
noncomputable def rPut (i:Nat) (fk f:En -> Option D):En -> Res:=fun env=>match f env,fk env,env[i]? with
  | some d,some (.int k),some (some (true,.lst ds))=>match ixN ds.length k with
    | some j=>if Z1m ds=true /\ flat d=true then .next (env.set i (some (true,.lst (ds.set j d)))) else .bad
    | none=>.bad
  | _,_,_=>.bad
theorem Reps.set {K:Frag} {H:Hp}:∀ {ds:List D} {vs:List V} {d:D} {v:V} (j:Nat),Reps K true H ds vs [] -> Rep K true H d v [] -> Reps K true H (ds.set j d) (vs.set j v) []
  | [],vs,d,v,j,r,_=>by simp only [Reps] at r; obtain ⟨rfl,_⟩:=r; simp only [List.set_nil,Reps]; exact ⟨trivial,trivial⟩
  | d' :: ds,vs,d,v,0,r,r'=>by
    simp only [Reps] at r
    obtain ⟨w,us,f1,f2,rfl,e,h1,h2⟩:=r
    obtain ⟨rfl,rfl⟩:=List.append_eq_nil_iff.mp e.symm
    simp only [List.set_cons_zero,Reps]
    exact ⟨v,us,[],[],rfl,rfl,r',h2⟩
  | d' :: ds,vs,d,v,j + 1,r,r'=>by
    simp only [Reps] at r
    obtain ⟨w,us,f1,f2,rfl,e,h1,h2⟩:=r
    obtain ⟨rfl,rfl⟩:=List.append_eq_nil_iff.mp e.symm
    simp only [List.set_cons_succ,Reps]
    exact ⟨w,us.set j v,[],[],rfl,rfl,h1,Reps.set j h2 r'⟩
theorem ZeM {k:Expr} {fk:En -> Option D} {spos:Pos} (hN:X.N[i]? = some x) (hv:Vis X.env.scope x) (he:QE X m1 rs1 e f) (hk:QE X m2 rs2 k fk) (hd:(x == ("__debug__" : Str))=false:=by decide) (hcd:(x == ("__classdict__" : Str))=false:=by decide)
    (hps:PS X (.Assign [.Subscript (.Name x p) k spos] e pos) (tAsg (tD X.K m1 rs1 f) (gSub (tVar i) (tD X.K m2 rs2 fk) ZeJ))) :
    QS X (.Assign [.Subscript (.Name x p) k spos] e pos) (rPut i fk f):=.mk hps fun E σ H ⟨P,env,I,q⟩=>by
  obtain ⟨F,hF⟩:=I.ex
  unfold rPut at q
  split at q
  . rename_i d kk ds h1 h2 h3
    split at q
    . rename_i j hj
      split at q
      . rename_i hfl
        obtain ⟨v,hv1,_⟩:=hF.ok i true _ h3
        obtain ⟨o1,o2,o3,o4⟩:=hF.own i _ h3
        obtain ⟨a,vs,fp',rfl,hFi,ha,hr⟩:=Z3S (o3 v hv1)
        refine ⟨env,F,d,hF.ok,h1,fun v' H1 fp s1 r1 c1=>⟨.ref a,hv1,env,F,_,hF.ok.same s1,h2,fun w H2 f2 s2 r2 c2=>?_⟩⟩
        rw [Z0B r2]
        have ha':=(s1.trans s2) _ _ ha
        refine ⟨a,vs,kk,j,rfl,rfl,ha',by rw [hr.length]; exact hj,q _ _ ?_⟩
        obtain ⟨g1,g2⟩:=Reps.flat _ _ _ hfl.1 hr
        obtain ⟨g3,g4⟩:=Rep.flat _ _ _ hfl.2 (r1.same s2)
        subst g1
        refine Z78 (fp2:=[]) (I.same.trans (s1.trans s2)) I.len (hF.grow (s1.trans s2)) h3 hv1 hFi ha' (Reps.set j ((g2 true).same (s1.trans s2)) (g4 true)) (by simp) (fun b hb=>(by cases hb))
      . exact q.elim
    . exact q.elim
  . exact q.elim
end
mutual
theorem Rep.kind {K:Frag} {st:Bool} {H:Hp}:∀ (d:D) (v:V) (fp:List Addr),Rep K st H d v fp -> ∀ b ∈ fp,(∀ xs,H b ≠ some (.tup xs)) /\ ∀ o u,H b ≠ some (.frz o u)
  | .non,v,fp,h,b,hb=>by simp only [Rep] at h; rw [h.2] at hb; cases hb
  | .bl _,v,fp,h,b,hb=>by simp only [Rep] at h; rw [h.2] at hb; cases hb
  | .int _,v,fp,h,b,hb=>by simp only [Rep] at h; rw [h.2] at hb; cases hb
  | .str _,v,fp,h,b,hb=>by simp only [Rep] at h; rw [h.2] at hb; cases hb
  | .tup ds,v,fp,h,b,hb=>by
    simp only [Rep] at h
    obtain ⟨a,vs,e,hs,hr⟩:=h
    exact Reps.kind ds vs fp hr b hb
  | .lst ds,v,fp,h,b,hb=>by
    simp only [Rep] at h
    obtain ⟨a,vs,fp',e,hr,hs⟩:=h
    rcases hs with ⟨rfl,hs⟩ | ⟨_,rfl,hs⟩
    . rcases List.mem_cons.mp hb with z | z
      . exact ⟨fun xs q=>(by rw [z,hs] at q; cases q),fun o u q=>(by rw [z,hs] at q; cases q)⟩
      . exact Reps.kind ds vs fp' hr b z
    . exact Reps.kind ds vs fp hr b hb
  | .obj C ns ds,v,fp,h,b,hb=>by
    simp only [Rep] at h
    obtain ⟨a,dx,vs,fp',e,rfl,hs,hl,hr⟩:=h
    rcases List.mem_cons.mp hb with z | z
    . exact ⟨fun xs q=>(by rw [z,hs] at q; cases q),fun o u q=>(by rw [z,hs] at q; cases q)⟩
    . exact Reps.kind ds vs fp' hr b z
  | .dk ks ds,v,fp,h,b,hb=>by
    simp only [Rep] at h
    obtain ⟨a,vs,fp',e,rfl,hs,hl,hr⟩:=h
    rcases List.mem_cons.mp hb with z | z
    . exact ⟨fun xs q=>(by rw [z,hs] at q; cases q),fun o u q=>(by rw [z,hs] at q; cases q)⟩
    . exact Reps.kind ds vs fp' hr b z
  | .dt ks ds,v,fp,h,b,hb=>by
    simp only [Rep] at h
    obtain ⟨a,vs,fp',e,rfl,hs,hl,hr⟩:=h
    rcases List.mem_cons.mp hb with z | z
    . exact ⟨fun xs q=>(by rw [z,hs] at q; cases q),fun o u q=>(by rw [z,hs] at q; cases q)⟩
    . exact Reps.kind ds vs fp' hr b z
  | .exc C,v,fp,h,b,hb=>by
    simp only [Rep] at h
    obtain ⟨a,e,rfl,hs⟩:=h
    rw [List.mem_singleton.mp hb]
    exact ⟨fun xs q=>(by rw [hs] at q; cases q),fun o u q=>(by rw [hs] at q; cases q)⟩
theorem Reps.kind {K:Frag} {st:Bool} {H:Hp}:∀ (ds:List D) (vs:List V) (fp:List Addr),Reps K st H ds vs fp -> ∀ b ∈ fp,(∀ xs,H b ≠ some (.tup xs)) /\ ∀ o u,H b ≠ some (.frz o u)
  | [],vs,fp,h,b,hb=>by simp only [Reps] at h; rw [h.2] at hb; cases hb
  | d :: ds,vs,fp,h,b,hb=>by
    simp only [Reps] at h
    obtain ⟨v,r,f1,f2,e1,rfl,h1,h2⟩:=h
    rcases List.mem_append.mp hb with z | z
    . exact Rep.kind d v f1 h1 b z
    . exact Reps.kind ds r f2 h2 b z
end
theorem SInv.lower {K:Frag} {P P' H:Hp} {σ:L2.St} {env:En} (s:Same P P') (h:SInv K P' H σ env):SInv K P H σ env :=
  ⟨s.trans h.same,h.len,let ⟨F,hF⟩:=h.ex; ⟨F,hF.ok,fun i d e=>let ⟨a,b,c,q⟩:=hF.own i d e; ⟨a,fun x hx=>s.free (b x hx),c,q⟩⟩⟩
theorem Zab {K:Frag} {P H:Hp} {σ:L2.St} {env:En} {F:Nat -> List Addr} {d:D} {v:V} {fp:List Addr} (i:Nat) (hl:σ.length=env.length) (h:EnvS K P H σ env F) (r:Rep K false H d v fp)
    (fr:∀ j d',env[j]? = some (some (true,d')) -> ∀ b ∈ F j,b ∉ fp):EnvS K P H (σ.set i (some v)) (env.set i (some (false,d))) (fset F i fp):=by
  refine ⟨?_,?_⟩
  . intro j o d' e
    by_cases hi:i < env.length
    . rw [Z1B hi] at e
      by_cases hj:j=i
      . subst hj
        rw [if_pos rfl] at e
        cases e
        exact ⟨v,List.getElem?_set_self (by omega),by rw [Z0z]; exact r⟩
      . rw [if_neg hj] at e
        obtain ⟨w,h1,h2⟩:=h.ok j o d' e
        exact ⟨w,by rw [List.getElem?_set_ne (Ne.symm hj)]; exact h1,by rw [Z0o hj]; exact h2⟩
    . rw [List.set_eq_of_length_le (by omega)] at e
      have hj:j ≠ i:=fun z=>by rw [z,List.getElem?_eq_none (by omega)] at e; cases e
      obtain ⟨w,h1,h2⟩:=h.ok j o d' e
      exact ⟨w,by rw [List.getElem?_set_ne (Ne.symm hj)]; exact h1,by rw [Z0o hj]; exact h2⟩
  . intro j d' e
    have hji:j ≠ i:=by
      rintro rfl
      by_cases hi:j < env.length
      . rw [Z1B hi,if_pos rfl] at e; cases e
      . rw [List.set_eq_of_length_le (by omega),List.getElem?_eq_none (by omega)] at e; cases e
    rw [List.getElem?_set_ne (Ne.symm hji)] at e
    obtain ⟨a1,a2,a3,a4⟩:=h.own j d' e
    refine ⟨by rw [Z0o hji]; exact a1,fun b hb=>a2 b (by rw [Z0o hji] at hb; exact hb),fun w hw=>?_,fun k s' hk ek b hb=>?_⟩
    . rw [List.getElem?_set_ne (Ne.symm hji)] at hw
      rw [Z0o hji]; exact a3 w hw
    . rw [Z0o hji] at hb
      by_cases hki:k=i
      . subst hki
        rw [Z0z]
        exact fr j d' e b hb
      . rw [List.getElem?_set_ne (Ne.symm hki)] at ek
        rw [Z0o hki]
        exact a4 k s' hk ek b hb
noncomputable def tDG (K:Frag) (t:D -> En -> Option En):TG:=fun v σ H Q=>∃ P env F d fp env',Same P H /\ σ.length=env.length /\ EnvS K P H σ env F /\ Rep K false H d v fp /\ (∀ j d',env[j]? = some (some (true,d')) -> ∀ b ∈ F j,b ∉ fp) /\ t d env=some env' /\
  ∀ σ',SInv K P H σ' env' -> Q σ' H
noncomputable def QG (X:Cx) (tg:Expr) (t:D -> En -> Option En):Prop:=PG X tg (tDG X.K t)
theorem QG.mk {X:Cx} {tg:Expr} {t:D -> En -> Option En} {g:TG} (h:PG X tg g) (hi:∀ v σ H Q,tDG X.K t v σ H Q -> g v σ H Q):QG X tg t:=fun pins s σ H v u Q I r q=>h pins s σ H v u Q I r (hi v σ H Q q)
noncomputable def gtN (i:Nat):D -> En -> Option En:=fun d env=>some (env.set i (some (false,d)))
noncomputable def Z3n:List Nat -> List D -> En -> Option En
  | [],[],env=>some env
  | i :: is,d :: ds,env=>Z3n is ds (env.set i (some (false,d)))
  | _,_,_=>none
noncomputable def gtT (is:List Nat):D -> En -> Option En:=fun d env=>match d with
  | .tup ds=>Z3n is ds env
  | _=>none
noncomputable def Zbd:List Nat -> TGs
  | []=>gNil
  | i :: is=>Zfk (Z9O i) (Zbd is)
theorem Z6a:∀ {is:List Nat} {ds:List D} {env env':En},Z3n is ds env=some env' -> is.length=ds.length
  | [],[],_,_,_=>rfl
  | i :: is,d :: ds,env,env',h=>by simp only [Z3n] at h; simp [Z6a h]
  | [],_ :: _,_,_,h=>by simp [Z3n] at h
  | _ :: _,[],_,_,h=>by simp [Z3n] at h
theorem Z6g {K:Frag} {P H:Hp} {Q:L2.St -> Hp -> Prop}:∀ {is:List Nat} {ds:List D} {vs:List V} {fp:List Addr} {σ:L2.St} {env env':En} {F:Nat -> List Addr},Same P H -> σ.length=env.length -> EnvS K P H σ env F -> Reps K false H ds vs fp ->
    (∀ j d',env[j]? = some (some (true,d')) -> ∀ b ∈ F j,b ∉ fp) -> Z3n is ds env=some env' -> (∀ σ',SInv K P H σ' env' -> Q σ' H) -> Zbd is vs σ H Q
  | [],[],vs,fp,σ,env,env',F,sm,hl,h,r,fr,e,q=>by
    simp only [Reps] at r
    simp only [Z3n] at e
    cases e
    exact ⟨r.1,q σ ⟨sm,hl,F,h⟩⟩
  | i :: is,d :: ds,vs,fp,σ,env,env',F,sm,hl,h,r,fr,e,q=>by
    simp only [Reps] at r
    obtain ⟨v,us,f1,f2,rfl,rfl,r1,r2⟩:=r
    simp only [Z3n] at e
    refine ⟨v,us,rfl,?_⟩
    have h':=Zab i hl h r1 fun j d' ej b hb z=>fr j d' ej b hb (List.mem_append_left _ z)
    refine Z6g (is:=is) (ds:=ds) sm (by simp [hl]) h' r2 (fun j d' ej b hb z=>?_) e q
    have hji:j ≠ i:=by
      rintro rfl
      by_cases hi:j < env.length
      . rw [Z1B hi,if_pos rfl] at ej; cases ej
      . rw [List.set_eq_of_length_le (by omega),List.getElem?_eq_none (by omega)] at ej; cases ej
    rw [List.getElem?_set_ne (Ne.symm hji)] at ej
    rw [Z0o hji] at hb
    exact fr j d' ej b hb (List.mem_append_right _ z)
  | [],_ :: _,_,_,_,_,_,_,_,_,_,_,_,h,_=>by simp [Z3n] at h
  | _ :: _,[],_,_,_,_,_,_,_,_,_,_,_,h,_=>by simp [Z3n] at h
section
variable {X:Cx} {m m' m1 m2:Bool} {rs rs' rs1 rs2:List Nat} {e a b c iter tg:Expr} {es rest:List Expr} {f fa fb fc:En -> Option D} {c':En -> Option Bool} {pos p pos':Pos} {st:Stmt} {sts body:List Stmt} {g h:En -> Res} {i:Nat} {x:Str} {src:En -> Option (List D)} {t:D -> En -> Option En}
theorem Z1f (hN:X.N.Nodup) (hi:X.N[i]? = some x) (hx:Loc X.env.scope x) (hf:X.fn x=true \/ X.env.scope.names.lookup x=some .local:=by first | exact .inl rfl | exact .inr rfl | assumption):QG X (.Name x pos) (gtN i) :=
  .mk (Z1G hN hi hx hf) fun v σ H Q ⟨P,env,F,d,fp,env',sm,hl,hF,r,fr,e,q⟩=>by
    cases e
    exact q _ (ZbQ i sm hl hF (Same.refl H) r fr)
theorem Z5s {k:Nat} {is:List Nat} {n:Nat} (hc:X.calm=true) (h:PGs X es (Zbd is)) (hnl:is.length=n) (hn:(assignEach es X.env).length=n:=by rfl) (hst:(assignEach es X.env).findIdx? (·.1)=none:=by rfl):QG X (.Tuple es k pos) (gtT is) :=
  .mk (ZeX hc h hn hst) fun v σ H Q ⟨P,env,F,d,fp,env',sm,hl,hF,r,fr,e,q⟩=>by
    cases d with
    | tup ds =>
      simp only [Rep] at r
      obtain ⟨a,vs,rfl,hsq,hr⟩:=r
      have e':Z3n is ds env=some env':=e
      exact ⟨a,vs,rfl,hsq,by rw [hr.length,<- Z6a e',hnl],Z6g sm hl hF hr fr e' q⟩
    | _=>cases e
noncomputable def rUnp (rs:List Nat) (t:D -> En -> Option En) (f:En -> Option D):En -> Res:=fun env=>match f env with
  | some d=>match t d (fz rs env) with
    | some env'=>.next env'
    | none=>.bad
  | none=>.bad
theorem ZeL (he:QE X m rs e f) (hg:QG X tg t) (hs:swapsWithSole [tg] e pos.line X.env=pure false:=by rfl) (hw:swappedStores [tg] e X.env=pure none:=by rfl)
    (hps:PS X (.Assign [tg] e pos) (tAsg (tD X.K m rs f) (tDG X.K t))):QS X (.Assign [tg] e pos) (rUnp rs t f):=.mk hps fun E σ H ⟨P,env,I,q⟩=>by
  obtain ⟨F,hF⟩:=I.ex
  unfold rUnp at q
  split at q
  . rename_i d h1
    split at q
    . rename_i env' h2
      refine ⟨env,nrm env F,d,hF.nrm.ok,h1,fun v H' fp s r c=>⟨P,fz rs env,nrm env F,d,fp,env',I.same.trans s,by rw [Zbe]; exact I.len,(hF.nrm.fz rs).grow s,Rep.weak _ _ _ r,Z8I hF c,h2,fun σ' I'=>q σ' H' I'⟩⟩
    . exact q.elim
  . exact q.elim
noncomputable def forD (t:D -> En -> Option En) (g:En -> Res):List D -> En -> Res
  | [],env=>.next env
  | d :: r,env=>match t d env with
    | none=>.bad
    | some env1=>match g env1 with
      | .next e=>forD t g r e
      | .cont e=>forD t g r e
      | .brk e=>.next e
      | .ret d=>.ret d
      | .bad=>.bad
noncomputable def rFor (rs:List Nat) (src:En -> Option (List D)) (t:D -> En -> Option En) (g:En -> Res):En -> Res:=fun env=>match src env with
  | some ds=>forD t g ds (fz rs env)
  | none=>.bad
open Classical in
theorem Z1l (hc:X.calm=true) (hp:PassesOwn (model X.prog X.w) X.A X.env X.xe) (hi:QI X tg rs iter src) (hg:QG X tg t) (hb:QSs X body g) (hs:∀ x,foldedSetIterable iter X.env x=pure x:=by intro _; rfl) :
    QS X (.For tg iter body [] pos) (rFor rs src t g):=.mk (ZeU hp hc hi hg hb hs) fun E σ H ⟨P,env,I,q⟩=>by
  obtain ⟨F,hF⟩:=I.ex
  unfold rFor at q
  split at q
  . rename_i ds h1
    refine ⟨env,nrm env F,ds,hF.nrm.ok,h1,fun J H1 fp s1 gv dm cd=>?_⟩
    have ap:=Z8I hF cd
    let O:Addr -> Prop:=fun b=>∃ j d,(fz rs env)[j]? = some (some (true,d)) /\ b ∈ nrm env F j
    let P':Hp:=fun b=>if O b then none else H1 b
    have hS0:EnvS X.K P H1 σ (fz rs env) (nrm env F):=(hF.nrm.fz rs).grow s1
    have okind:∀ b,O b -> (∀ xs,H1 b ≠ some (.tup xs)) /\ ∀ o u,H1 b ≠ some (.frz o u):=fun b ⟨j,d,e,hb⟩=>by
      obtain ⟨v,hv,r⟩:=hS0.ok j true d e
      exact Rep.kind _ _ _ r b hb
    have pn:∀ {b:Addr},¬ O b -> P' b=H1 b:=fun hn=>if_neg hn
    have po:∀ {b:Addr},O b -> P' b=none:=fun hO=>if_pos hO
    have sP1:Same P' H1:=fun b o e=>by
      by_cases hO:O b
      . rw [po hO] at e; cases e
      . rw [pn hO] at e; exact e
    have sP:Same P P':=fun b o e=>by
      have hO:¬ O b:=fun ⟨j,d,ej,hb⟩=>by
        have:=(hS0.own j d ej).2.1 b hb
        rw [this] at e; cases e
      rw [pn hO]; exact s1 _ _ (I.same _ _ e)
    have fpP:∀ b ∈ fp,¬ O b:=fun b hb ⟨j,d,ej,hb'⟩=>ap j d ej b hb' hb
    have kp:∀ {H2:Hp},Same P' H2 -> Kp fp H1 H2:=fun s2=>⟨fun b hb o e=>s2 _ _ (by rw [pn (fpP b hb)]; exact e),
      fun b xs e=>s2 _ _ (by rw [pn (fun hO=>(okind b hO).1 _ e)]; exact e),
      fun b o u e=>s2 _ _ (by rw [pn (fun hO=>(okind b hO).2 _ _ e)]; exact e)⟩
    refine ⟨fun i k σ' H'=>i <= ds.length /\ k=ds.length - i /\ ∃ env',SInv X.K P' H' σ' env' /\ Post X.K P E (forD t g (ds.drop i) env'),
      ⟨ds.length,Nat.zero_le _,rfl,fz rs env,⟨sP1,by rw [Zbe]; exact I.len,nrm env F,hS0.ok,fun j d e=>?_⟩,by simpa using q⟩,?_⟩
    . obtain ⟨a1,a2,a3,a4⟩:=hS0.own j d e
      exact ⟨a1,fun b hb=>po ⟨j,d,e,hb⟩,a3,a4⟩
    . rintro i k σ' H' ⟨hi,hk,env',I',q'⟩
      have gi:=gv H' (kp I'.same) i
      by_cases hlt:i < ds.length
      . right
        have hd:ds[i]? = some ds[i]:=List.getElem?_eq_getElem hlt
        obtain ⟨go,hy⟩:=gi.1 _ hd
        have edrop:ds.drop i=ds[i] :: ds.drop (i + 1):=List.drop_eq_getElem_cons hlt
        rw [edrop] at q'
        refine ⟨go,fun σ2 H2=>∃ env2,SInv X.K P' H2 σ2 env2 /\ Post X.K P E (forD t g (ds.drop (i + 1)) env2),fun σ2 H2 ⟨env2,I2,q2⟩=>⟨ds.length - (i + 1),by omega,hlt,rfl,env2,I2,q2⟩,fun x H2 y2=>?_⟩
        obtain ⟨sm2,f2,r2,sub2⟩:=hy x H2 y2
        unfold forD at q'
        cases ht:t ds[i] env' with
        | none=>rw [ht] at q'; exact q'.elim
        | some env1 =>
          rw [ht] at q'
          simp only at q'
          have I2:=I'.grow sm2
          obtain ⟨F2,hF2⟩:=I2.ex
          refine ⟨P',env',F2,_,f2,env1,I2.same,I2.len,hF2,r2,fun j d' ej b hb z=>?_,ht,fun σ3 I3=>⟨P',env1,I3,?_⟩⟩
          . have h5:=(hF2.own j d' ej).2.1 b hb
            rw [pn (fpP b (sub2 b z))] at h5
            obtain ⟨o,ho⟩:=dm b (sub2 b z)
            rw [h5] at ho; cases ho
          . cases hg:g env1 with
            | next e2=>rw [hg] at q'; exact fun σ4 H4 I4=>⟨e2,I4,q'⟩
            | cont e2=>rw [hg] at q'; exact fun σ4 H4 I4=>⟨e2,I4,q'⟩
            | brk e2=>rw [hg] at q'; exact fun σ4 H4 I4=>q' σ4 H4 (I4.lower sP)
            | ret d=>rw [hg] at q'; exact fun v H4 fp4 s4 r4 n4 nd4=>q' v H4 fp4 (sP.trans s4) r4 (fun b hb=>sP.free (n4 b hb)) nd4
            | bad=>rw [hg] at q'; exact q'.elim
      . left
        have hi':i=ds.length:=by omega
        rw [hi',List.drop_length] at q'
        exact ⟨gi.2 (by omega),q' σ' H' (I'.lower sP)⟩
  . exact q.elim
end
noncomputable def enStart (L:Nat) (ds:List D):En:=ds.map (fun d=>some (false,d)) ++ List.replicate (L - ds.length) none
noncomputable def runF (L:Nat) (g:En -> Res):List D -> Option D:=fun ds=>match g (enStart L ds) with
  | .ret d=>some d
  | .next _=>some .non
  | _=>none
theorem Z87 {K:Frag} {H:Hp} {st:Bool}:∀ {ds:List D} {vs:List V} {fp:List Addr},Reps K st H ds vs fp -> ∃ F:Nat -> List Addr,∀ i d,ds[i]? = some d -> ∃ v,vs[i]? = some v /\ Rep K st H d v (F i)
  | [],vs,fp,_=>⟨fun _=>[],fun i d e=>by simp at e⟩
  | d :: ds,vs,fp,r=>by
    simp only [Reps] at r
    obtain ⟨v,us,f1,f2,rfl,rfl,r1,r2⟩:=r
    obtain ⟨F,hF⟩:=Z87 r2
    refine ⟨fun i=>match i with | 0=>f1 | i + 1=>F i,fun i d' e=>?_⟩
    cases i with
    | zero=>simp at e; subst e; exact ⟨v,rfl,r1⟩
    | succ i =>
      obtain ⟨w,h1,h2⟩:=hF i d' (by simpa using e)
      exact ⟨w,by simpa using h1,h2⟩
theorem Z9o {K:Frag} {H:Hp} {N:List Str} {ds:List D} {vs:List V} {fp:List Addr} (r:Reps K false H ds vs fp):SInv K H H (L2.start N vs) (enStart N.length ds):=by
  obtain ⟨F,hF⟩:=Z87 r
  refine ⟨Same.refl H,by simp [L2.start,enStart,r.length],F,fun i o d e=>?_,fun i d e=>?_⟩
  . unfold enStart at e
    by_cases hi:i < ds.length
    . rw [List.getElem?_append_left (by simpa using hi),List.getElem?_map] at e
      cases hd:ds[i]? with
      | none=>rw [hd] at e; cases e
      | some d' =>
        rw [hd] at e
        cases e
        obtain ⟨v,h1,h2⟩:=hF i d hd
        refine ⟨v,?_,h2⟩
        unfold L2.start
        rw [List.getElem?_append_left (by rw [List.length_map,r.length]; exact hi),List.getElem?_map,h1]
        rfl
    . rw [List.getElem?_append_right (by simpa using hi),List.getElem?_replicate] at e
      split at e <;> cases e
  . unfold enStart at e
    by_cases hi:i < ds.length
    . rw [List.getElem?_append_left (by simpa using hi),List.getElem?_map] at e
      cases hd:ds[i]? with
      | none=>rw [hd] at e; cases e
      | some d'=>rw [hd] at e; cases e
    . rw [List.getElem?_append_right (by simpa using hi),List.getElem?_replicate] at e
      split at e <;> cases e
structure FunD (K:Frag) (x qual:Str) (st:Stmt) (f:Addr) (fd:FuncData):Prop where
  ex:∃ (oc:Value) (od:Option Addr) (dV kV doc pm:Value) (an:Option Addr) (cdv ct:Value) (osl:Array (Option Value)),
    fd=fnOf x qual (Z0b st) (Z0a st) (Z04 st) dV kV doc pm an cdv ct /\ K.lookup f=some ⟨oc,od,.func fd,osl⟩ /\ codeIn K cdv qual=true
  kp:keepIn K (.ref f)=true
theorem Z0t {K:Frag} {x qual:Str} {st:Stmt} {f:Addr} {oc:Value} {od an:Option Addr} {osl:Array (Option Value)} {dV kV doc pm cdv ct:Value} (l:K.lookup f=some ⟨oc,od,.func (fnOf x qual (Z0b st) (Z0a st) (Z04 st) dV kV doc pm an cdv ct),osl⟩)
    (c:codeIn K cdv qual=true) (k:keepIn K (.ref f)=true):FunD K x qual st f (fnOf x qual (Z0b st) (Z0a st) (Z04 st) dV kV doc pm an cdv ct) :=
  ⟨⟨oc,od,dV,kV,doc,pm,an,cdv,ct,osl,rfl,l,c⟩,k⟩
theorem FunD.ok {P:Program} {w:World} {K:Frag} {mg:Str -> Option Value} {base:Heap} {x qual:Str} {st:Stmt} {f:Addr} {fd:FuncData} {N ps:List Str} {k n L:Nat} {g:En -> Res} (F:FunD K x qual st f fd) (S:Z0p N ps (Z04 st)) (hn:ps.length=n) (hL:N.length=L)
    (hb:∀ (cdv:Value) (A:Around) (outer:List Env) (s:Shared) (H:Hp) (E:XK),Room k (A.deeper (envOfC qual (Z04 st) s.heap.objs.size f cdv)) -> QSs (cxOf CX0 P w K mg base N qual (Z04 st) f cdv A outer s H E).nox (Z0a st) g) :
    FnOk P w K mg base CX0 (k + 1) f fd ps (spD K n (runF L g)):=by
  subst hn hL
  obtain ⟨oc,od,dV,kV,doc,pm,an,cdv,ct,osl,rfl,lk,hcd⟩:=F.ex
  refine Zef lk hcd S (fun vs H Q E h=>Zdn h) fun A outer s H vs Q E hr hsp=>?_
  obtain ⟨ds,d,fp,h1,h2,h3,q⟩:=hsp
  have hq:=hb cdv A outer s H E hr
  refine ⟨_,PSs.nox hq,H,enStart N.length ds,Z9o h2,?_⟩
  unfold runF at h3
  cases hg:g (enStart N.length ds) with
  | ret d' =>
    rw [hg] at h3
    cases h3
    exact fun v H' fp' s r fr nd=>q v H' fp' s r fr nd
  | next env' =>
    rw [hg] at h3
    cases h3
    exact fun σ' H' I'=>q .non H' [] I'.same Z8U (fun b hb=>(by cases hb)) List.nodup_nil
  | brk _=>rw [hg] at h3; cases h3
  | cont _=>rw [hg] at h3; cases h3
  | bad=>rw [hg] at h3; cases h3
open PySem PySem.Spec PyProof.Rows L2 PySem.SeqAt
noncomputable def eqL (f:D -> D -> Option Bool):List D -> List D -> Option Bool
  | x :: xs,y :: ys=>match f x y,eqL f xs ys with
    | some a,some b=>some (a && b)
    | _,_=>none
  | _,_=>some true
noncomputable def eqN:Nat -> D -> D -> Option Bool
  | 0,_,_=>none
  | _ + 1,.non,.non=>some true
  | _ + 1,.bl a,.bl b=>some (a == b)
  | _ + 1,.int a,.int b=>some (a == b)
  | _ + 1,.str a,.str b=>some (a == b)
  | _ + 1,.non,.int _=>some false
  | _ + 1,.non,.str _=>some false
  | _ + 1,.int _,.non=>some false
  | _ + 1,.str _,.non=>some false
  | _ + 1,.int _,.str _=>some false
  | _ + 1,.str _,.int _=>some false
  | n + 1,.tup xs,.tup ys=>(eqL (eqN n) xs ys).map (· && xs.length == ys.length)
  | _ + 1,.tup _,.non=>some false
  | _ + 1,.non,.tup _=>some false
  | n + 1,.lst xs,.lst ys=>if xs.length=ys.length then eqL (eqN n) xs ys else some false
  | _ + 1,.lst _,.non=>some false
  | _ + 1,.non,.lst _=>some false
  | _,_,_=>none
theorem Z6Z {f:D -> D -> Option Bool}:∀ {xs ys:List D} {k:Bool},eqL f xs ys=some k -> ∃ e:Nat -> Bool,(∀ j x y,xs[j]? = some x -> ys[j]? = some y -> f x y=some (e j)) /\ (List.range (min xs.length ys.length)).all e=k
  | [],ys,k,h=>by simp only [eqL] at h; cases h; exact ⟨fun _=>true,fun j x y h=>by simp at h,by simp⟩
  | x :: xs,[],k,h=>by simp only [eqL] at h; cases h; exact ⟨fun _=>true,fun j x y _ h=>by simp at h,by simp⟩
  | x :: xs,y :: ys,k,h=>by
    simp only [eqL] at h
    split at h
    . rename_i a b h1 h2
      cases h
      obtain ⟨e,g1,g2⟩:=Z6Z h2
      refine ⟨fun j=>match j with | 0=>a | j + 1=>e j,fun j x' y' e1 e2=>?_,?_⟩
      . cases j with
        | zero=>simp at e1 e2; subst e1 e2; exact h1
        | succ j=>exact g1 j x' y' (by simpa using e1) (by simpa using e2)
      . simp only [List.length_cons,Nat.succ_min_succ,List.range_succ_eq_map,List.all_cons,List.all_map]
        rw [<- g2]
        congr 1
    . cases h
section
variable {X:Cx} {pins:List (Addr × Obj)} {σ:L2.St} {H:Hp} {s:Shared}
theorem Zag {st1 st2:Bool} (I:Inv X pins σ H s):∀ (n:Nat) (a b:D) (v:V) (f1 f2:List Addr) (k:Bool),Rep X.K st1 H a v f1 -> Rep X.K st2 H b v f2 -> eqN n a b=some k -> k=true:=by
  intro n
  induction n with
  | zero=>intro a b v f1 f2 k _ _ e; simp [eqN] at e
  | succ n ih =>
    have seq:∀ (xs ys:List D) (vs:List V) (f1 f2:List Addr) (k:Bool),Reps X.K st1 H xs vs f1 -> Reps X.K st2 H ys vs f2 -> eqL (eqN n) xs ys=some k -> k=true:=by
      intro xs
      induction xs with
      | nil=>intro ys vs f1 f2 k _ _ e; simp only [eqL] at e; cases e; rfl
      | cons x xs ihx =>
        intro ys vs f1 f2 k r1 r2 e
        cases ys with
        | nil=>simp only [eqL] at e; cases e; rfl
        | cons y ys =>
          simp only [Reps] at r1 r2
          obtain ⟨v,us,g1,g2,rfl,_,a1,a2⟩:=r1
          obtain ⟨v',us',g3,g4,e',_,b1,b2⟩:=r2
          cases e'
          simp only [eqL] at e
          split at e
          . rename_i c d h1 h2
            cases e
            rw [ih _ _ _ _ _ _ a1 b1 h1,ihx _ _ _ _ _ a2 b2 h2]
            rfl
          . cases e
    intro a b v f1 f2 k ra rb e
    cases a <;> cases b <;> simp only [eqN,Rep] at ra rb e <;> try (cases e; done)
    all_goals first
      | (cases e; rfl)
      | (obtain ⟨rfl,_⟩:=ra; obtain ⟨h,_⟩:=rb; cases h; cases e; simp; done)
      | (obtain ⟨rfl,_⟩:=ra; obtain ⟨h,_⟩:=rb; cases h; done)
      | (obtain ⟨rfl,_⟩:=ra; obtain ⟨_,_,h,_⟩:=rb; cases h; done)
      | (obtain ⟨rfl,_⟩:=ra; obtain ⟨_,_,_,h,_⟩:=rb; cases h; done)
      | (obtain ⟨rfl,_⟩:=rb; obtain ⟨_,_,h,_⟩:=ra; cases h; done)
      | (obtain ⟨rfl,_⟩:=rb; obtain ⟨_,_,_,h,_⟩:=ra; cases h; done)
      | skip
    . -- tuples
      rename_i xs ys
      obtain ⟨a,vs,rfl,hs,hr⟩:=ra
      obtain ⟨a',vs',e',hs',hr'⟩:=rb
      cases e'
      obtain rfl:=I.tuple_inj hs hs'
      cases hq:eqL (eqN n) xs ys with
      | none=>rw [hq] at e; cases e
      | some c =>
        rw [hq] at e
        cases e
        have:=seq _ _ _ _ _ _ hr hr' hq
        subst this
        have l1:=hr.length
        have l2:=hr'.length
        simp [<- l1,<- l2]
    . rename_i xs ys
      have hra:Rep X.K st1 H (.lst xs) v f1:=by simp only [Rep]; exact ra
      have hrb:Rep X.K st2 H (.lst ys) v f2:=by simp only [Rep]; exact rb
      obtain ⟨a,vs,fp',rfl,hs,hr,_⟩:=Z0N hra
      obtain ⟨a',vs',fp2,e',hs',hr',_⟩:=Z0N hrb
      cases e'
      obtain rfl:=I.list_inj hs hs'
      have l1:=hr.length
      have l2:=hr'.length
      rw [if_pos (by rw [<- l1,<- l2])] at e
      exact seq _ _ _ _ _ _ hr hr' e
end
section
variable {X:Cx} {pins:List (Addr × Obj)} {σ:L2.St} {H:Hp} {s:Shared}
theorem Z3K (A:Around):A.in1.units=A.units + 1:=rfl
theorem Zfn {st1 st2:Bool} (I:Inv X pins σ H s):∀ (n:Nat) (A:Around) (a b:D) (v u:V) (vv uu:Value) (f1 f2:List Addr) (k:Bool),A.units + n <= cLine -> Rep X.K st1 H a v f1 -> Rep X.K st2 H b u f2 -> RelV v vv -> RelV u uu -> eqN n a b=some k ->
    EqAt A s vv uu k /\ RcAt A s vv uu k /\ RcNeAt A s vv uu (!k):=by
  intro n
  induction n with
  | zero=>intro A a b v u vv uu f1 f2 k _ _ _ _ _ e; simp [eqN] at e
  | succ n ih =>
    intro A a b v u vv uu f1 f2 k hu ra rb rv ru e
    have hu0:A.units < cLine:=by omega
    have seqs:∀ {xs ys:List D} {vs us:List V} {its its2:List Value} {g1 g2:List Addr} {ee:Nat -> Bool},Reps X.K st1 H xs vs g1 -> Reps X.K st2 H ys us g2 -> Vals vs its -> Vals us its2 -> (∀ j x y,xs[j]? = some x -> ys[j]? = some y -> eqN n x y=some (ee j)) ->
        ∀ j (h1:j < its.toArray.size) (h2:j < its2.toArray.size),EqAt A.in1 s its.toArray[j] its2.toArray[j] (ee j):=by
      intro xs ys vs us its its2 g1 g2 ee r1 r2 w1 w2 he j h1 h2
      have l1:=r1.length
      have l2:=r2.length
      have l3:=w1.length
      have l4:=w2.length
      have j1:j < xs.length:=by simp at h1; omega
      have j2:j < ys.length:=by simp at h2; omega
      obtain ⟨v1,_,a1,a2,_⟩:=r1.get (List.getElem?_eq_getElem j1)
      obtain ⟨v2,_,b1,b2,_⟩:=r2.get (List.getElem?_eq_getElem j2)
      obtain ⟨u1,c1,c2⟩:=w1.get a1
      obtain ⟨u2,d1,d2⟩:=w2.get b1
      have e1:its.toArray[j]=u1:=by have:=List.getElem?_eq_some_iff.mp c1; obtain ⟨_,z⟩:=this; simpa using z
      have e2:its2.toArray[j]=u2:=by have:=List.getElem?_eq_some_iff.mp d1; obtain ⟨_,z⟩:=this; simpa using z
      rw [e1,e2]
      exact (ih A.in1 _ _ _ _ _ _ _ _ _ (by rw [Z3K]; omega) a2 b2 c2 d2 (he j _ _ (List.getElem?_eq_getElem j1) (List.getElem?_eq_getElem j2))).1
    cases a with
    | non =>
      have hv:v=.non:=Z2t ra
      subst hv
      cases (show vv=Value.none from rv)
      cases b with
      | non =>
        cases Z2t rb
        cases (show uu=Value.none from ru)
        simp only [eqN] at e; cases e
        exact ⟨EqAt.same _,RcAt.none_none,RcNeAt.none_none⟩
      | int i =>
        cases Z0B rb
        obtain ⟨t,rfl⟩:=(show ∃ t,uu=Value.int i t from ru)
        simp only [eqN] at e; cases e
        exact ⟨EqAt.none_int _ _,RcAt.none_int _ _,RcNeAt.none_int _ _⟩
      | str i =>
        cases Z21 rb
        obtain ⟨t,rfl⟩:=(show ∃ t,uu=Value.str i t from ru)
        simp only [eqN] at e; cases e
        exact ⟨EqAt.none_str _ _,RcAt.none_str _ _,RcNeAt.none_str _ _⟩
      | tup ys =>
        simp only [Rep] at rb
        obtain ⟨p,us,rfl,hs,hr⟩:=rb
        cases (show uu=Value.ref p from ru)
        obtain ⟨its,w1,pl,_⟩:=I.tuple hs
        simp only [eqN] at e; cases e
        exact ⟨EqAt.none_tuple pl hu0,RcAt.none_tuple pl hu0,RcNeAt.none_tuple pl hu0⟩
      | lst ys =>
        obtain ⟨p,us,_,rfl,hs,hr,_⟩:=Z0N rb
        cases (show uu=Value.ref p from ru)
        obtain ⟨its,w1,pl,_⟩:=I.list hs
        simp only [eqN] at e; cases e
        exact ⟨EqAt.none_list pl.isList hu0,RcAt.none_list pl.isList hu0,RcNeAt.none_list pl.isList hu0⟩
      | _=>simp only [eqN] at e; cases e
    | bl x =>
      cases Z3p ra
      cases (show vv=Value.bool x from rv)
      cases b with
      | bl y =>
        cases Z3p rb
        cases (show uu=Value.bool y from ru)
        simp only [eqN] at e; cases e
        exact ⟨EqAt.bool_bool _ _,RcAt.bool_bool _ _,RcNeAt.bool_bool _ _⟩
      | _=>simp only [eqN] at e; cases e
    | int x =>
      cases Z0B ra
      obtain ⟨t,rfl⟩:=(show ∃ t,vv=Value.int x t from rv)
      cases b with
      | int y =>
        cases Z0B rb
        obtain ⟨t',rfl⟩:=(show ∃ t,uu=Value.int y t from ru)
        simp only [eqN] at e; cases e
        exact ⟨EqAt.int_int _ _ _ _,RcAt.int_int _ _ _ _,RcNeAt.int_int _ _ _ _⟩
      | non =>
        cases Z2t rb
        cases (show uu=Value.none from ru)
        simp only [eqN] at e; cases e
        exact ⟨EqAt.int_none _ _,RcAt.int_none _ _,RcNeAt.int_none _ _⟩
      | str y =>
        cases Z21 rb
        obtain ⟨t',rfl⟩:=(show ∃ t,uu=Value.str y t from ru)
        simp only [eqN] at e; cases e
        exact ⟨EqAt.int_str _ _ _ _,RcAt.int_str _ _ _ _,RcNeAt.int_str _ _ _ _⟩
      | _=>simp only [eqN] at e; cases e
    | str x =>
      cases Z21 ra
      obtain ⟨t,rfl⟩:=(show ∃ t,vv=Value.str x t from rv)
      cases b with
      | int y =>
        cases Z0B rb
        obtain ⟨t',rfl⟩:=(show ∃ t,uu=Value.int y t from ru)
        simp only [eqN] at e; cases e
        exact ⟨EqAt.str_int _ _ _ _,RcAt.str_int _ _ _ _,RcNeAt.str_int _ _ _ _⟩
      | non =>
        cases Z2t rb
        cases (show uu=Value.none from ru)
        simp only [eqN] at e; cases e
        exact ⟨EqAt.str_none _ _,RcAt.str_none _ _,RcNeAt.str_none _ _⟩
      | str y =>
        cases Z21 rb
        obtain ⟨t',rfl⟩:=(show ∃ t,uu=Value.str y t from ru)
        simp only [eqN] at e; cases e
        exact ⟨EqAt.str_str _ _ _ _,RcAt.str_str _ _ _ _,RcNeAt.str_str _ _ _ _⟩
      | _=>simp only [eqN] at e; cases e
    | tup xs =>
      have ra':=ra
      simp only [Rep] at ra
      obtain ⟨p,vs,rfl,hs,hr⟩:=ra
      cases (show vv=Value.ref p from rv)
      obtain ⟨its,w1,pl,_⟩:=I.tuple hs
      cases b with
      | non =>
        cases Z2t rb
        cases (show uu=Value.none from ru)
        simp only [eqN] at e; cases e
        exact ⟨EqAt.tuple_none pl hu0,RcAt.tuple_none pl hu0,RcNeAt.tuple_none pl hu0⟩
      | tup ys =>
        have rb':=rb
        simp only [Rep] at rb
        obtain ⟨p',us,rfl,hs',hr'⟩:=rb
        cases (show uu=Value.ref p' from ru)
        obtain ⟨its2,w2,pl2,_⟩:=I.tuple hs'
        have e0:=e
        simp only [eqN] at e
        cases hq:eqL (eqN n) xs ys with
        | none=>rw [hq] at e; cases e
        | some c =>
          rw [hq] at e
          cases e
          obtain ⟨ee,g1,g2⟩:=Z6Z hq
          have l1:=hr.length
          have l2:=hr'.length
          have l3:=w1.length
          have l4:=w2.length
          have es:(its.toArray.size == its2.toArray.size)=(xs.length == ys.length):=by simp [<- l1,<- l2,l3,l4]
          have em:min its.toArray.size its2.toArray.size=min xs.length ys.length:=by simp [<- l1,<- l2,l3,l4]
          have rc:=RcAt.tuples pl pl2 hu0 (seqs hr hr' w1 w2 g1)
          have rn:=RcNeAt.tuples pl pl2 hu0 (seqs hr hr' w1 w2 g1)
          rw [es,em,g2] at rc rn
          refine ⟨?_,rc,rn⟩
          by_cases hp:p=p'
          . subst hp
            have:=Zag I _ _ _ _ _ _ _ ra' rb' e0
            rw [this]
            exact EqAt.same _
          . exact EqAt.of_refs hp rc
      | _=>simp only [eqN] at e; cases e
    | lst xs =>
      obtain ⟨p,vs,_,rfl,hs,hr,_⟩:=Z0N ra
      cases (show vv=Value.ref p from rv)
      obtain ⟨its,w1,pl,_⟩:=I.list hs
      cases b with
      | non =>
        cases Z2t rb
        cases (show uu=Value.none from ru)
        simp only [eqN] at e; cases e
        exact ⟨EqAt.list_none pl.isList hu0,RcAt.list_none pl.isList hu0,RcNeAt.list_none pl.isList hu0⟩
      | lst ys =>
        obtain ⟨p',us,_,rfl,hs',hr',_⟩:=Z0N rb
        cases (show uu=Value.ref p' from ru)
        obtain ⟨its2,w2,pl2,_⟩:=I.list hs'
        have e0:=e
        simp only [eqN] at e
        have l1:=hr.length
        have l2:=hr'.length
        have l3:=w1.length
        have l4:=w2.length
        have key:RcAt A s (.ref p) (.ref p') k /\ RcNeAt A s (.ref p) (.ref p') (!k):=by
          by_cases hl:xs.length=ys.length
          . rw [if_pos hl] at e
            obtain ⟨ee,g1,g2⟩:=Z6Z e
            have hsz:its.toArray.size=its2.toArray.size:=by simp; omega
            have em:its.toArray.size=min xs.length ys.length:=by simp; omega
            have rc:=RcAt.lists pl.isList pl2.isList hsz hu0 (seqs hr hr' w1 w2 g1)
            have rn:=RcNeAt.lists pl.isList pl2.isList hsz hu0 (seqs hr hr' w1 w2 g1)
            rw [em,g2] at rc rn
            exact ⟨rc,rn⟩
          . rw [if_neg hl] at e
            cases e
            have hsz:(its.toArray.size != its2.toArray.size)=true:=by simp; omega
            exact ⟨RcAt.lists_lengths pl.isList pl2.isList hsz hu0,RcNeAt.lists_lengths pl.isList pl2.isList hsz hu0⟩
        refine ⟨?_,key.1,key.2⟩
        by_cases hp:p=p'
        . subst hp
          have:=Zag I _ _ _ _ _ _ _ ra rb e0
          rw [this]
          exact EqAt.same _
        . exact EqAt.of_refs hp key.1
      | _=>simp only [eqN] at e; cases e
    | obj _ _ _=>simp only [eqN] at e; cases e
    | dk _ _=>simp only [eqN] at e; cases e
    | dt _ _=>simp only [eqN] at e; cases e
    | exc _=>simp only [eqN] at e; cases e
end
section
variable {X:Cx} {m m' m1 m2:Bool} {rs rs' rs1 rs2:List Nat} {e a b c:Expr} {fa fb:En -> Option D} {pos:Pos}
noncomputable def fEq (fa fb:En -> Option D):En -> Option Bool:=fun env=>match fa env,fb env with
  | some x,some y=>eqN 8 x y
  | _,_=>none
noncomputable def rEqD (neg:Bool) (K:Frag):R2:=fun v u H Q=>∃ a b f1 f2 k st1 st2,Rep K st1 H a v f1 /\ Rep K st2 H b u f2 /\ eqN 8 a b=some k /\ Q (.bl (if neg then !k else k)) H
theorem ZcY (hu:X.A.units + 8 <= cLine):OpR X (compareOp .Eq) (rEqD false X.K):=fun pins s σ H x y v u Q I rx ry ⟨a,b,f1,f2,k,st1,st2,r1,r2,e,q⟩ =>
  (Zfn I 8 X.A a b x y v u f1 f2 k hu r1 r2 rx ry e).2.1 _ _ _ _ ⟨.bl k,H,I,rfl,q⟩
theorem Z6Y {env:En} {bb:Bool} (e:fEq fa fb env=some bb):∃ x y,fa env=some x /\ fb env=some y /\ eqN 8 x y=some bb:=by
  unfold fEq at e
  split at e
  . rename_i x y h1 h2; exact ⟨x,y,h1,h2,e⟩
  . cases e
theorem Z1V (hu:X.A.units + 8 <= cLine) (ha:QE X m1 rs1 a fa) (hb:QE X m2 rs2 b fb):QT X (.Compare a [.Eq] [b] pos) (fEq fa fb) :=
  Z7l (ZcY hu) ha hb (Z4Y _) (fun env x y K H v u f1 f2 Q bb e ea eb r1 r2 hK q=>by
    subst hK
    obtain ⟨x',y',h1,h2,h3⟩:=Z6Y e
    rw [ea] at h1; rw [eb] at h2; cases h1; cases h2
    exact ⟨x,y,f1,f2,bb,_,_,r1,r2,h3,q⟩) fun env bb e=>let ⟨x,y,h1,h2,_⟩:=Z6Y e; ⟨x,y,h1,h2⟩
theorem ZeQ (hu:X.A.units + 8 <= cLine) (ha:QE X m1 rs1 a fa) (hb:QE X m2 rs2 b fb):QE X m rs (.Compare a [.Eq] [b] pos) (fOfB (fEq fa fb)) :=
  .mk (ZaE (ZcY hu) ha hb (Z4Y _)) fun σ H Q ⟨env,F,d,ok,e,q⟩=>by
    unfold fOfB at e
    cases h:fEq fa fb env with
    | none=>rw [h] at e; cases e
    | some k =>
      rw [h] at e
      cases e
      obtain ⟨x,y,h1,h2,h3⟩:=Z6Y h
      exact two ok h1 h2 fun v u H' f1 f2 s r1 r2 _ _=>⟨x,y,f1,f2,k,_,_,r1,r2,h3,q _ _ _ s Z9C .nil⟩
end
section
variable {X:Cx} {m m' m1 m2:Bool} {rs rs' rs1 rs2:List Nat} {e a b c:Expr} {es:List Expr} {f fa fb:En -> Option D} {fs:En -> Option (List D)} {pos p p2:Pos}
theorem Z5Y:bootBuiltins "isinstance" = some (.builtin "isinstance"):=by decide +kernel
theorem Z2w:OpR X (binaryOp .Mult) (rI IntMulOk fun i j=>.int (i * j)):=opI fun _ _ _ _ _ _ _ hc q=>PyProof.Rows.mul_int q hc
noncomputable def Z2h (i j:Int):Prop:=0 < j /\ j.natAbs.log2 < 9000
theorem Z2c:OpR X (binaryOp .FloorDiv) (rI Z2h fun i j=>.int (i / j)):=opI fun i j _ _ _ _ _ hc q=>by
  have h1:(0:Int) < j:=hc.1
  exact floordiv_int (by omega) (by rw [Int.fdiv_eq_ediv_of_nonneg i (by omega)]; exact q) (.inl (PyProof.noPylong_of_log2 hc.2))
noncomputable def Z5b:List D -> Option (List Int)
  | []=>some []
  | .int i :: r=>(Z5b r).map (i :: ·)
  | _ :: _=>none
theorem Z5G {K:Frag} {st:Bool} {H:Hp}:∀ {ds:List D} {ns:List Int} {vs:List V} {fp:List Addr},Z5b ds=some ns -> Reps K st H ds vs fp -> vs=ns.map V.int
  | [],ns,vs,fp,h,r=>by simp only [Z5b] at h; cases h; simp only [Reps] at r; exact r.1
  | d :: ds,ns,vs,fp,h,r=>by
    simp only [Reps] at r
    obtain ⟨v,us,f1,f2,rfl,rfl,r1,r2⟩:=r
    cases d with
    | int i =>
      simp only [Z5b] at h
      cases hq:Z5b ds with
      | none=>rw [hq] at h; cases h
      | some ms =>
        rw [hq] at h
        cases h
        rw [Z0B r1,Z5G hq r2]
        rfl
    | _=>simp only [Z5b] at h; cases h
noncomputable def FSum:List D -> Option D
  | [.lst ds]=>(Z5b ds).map fun ns=>.int ns.sum
  | _=>none
theorem Zbv (hc:X.calm=true):CallR X (.builtin "sum") (fun vs H Q=>∃ (a:Addr) (ns:List Int),vs=[.ref a] /\ SqL X.K H a (ns.map V.int) /\ Q (.int ns.sum) H):=fun pins s σ H xs us Q I w h=>by
  obtain ⟨a,ns,rfl,hs,q⟩:=h
  obtain ⟨u,rfl,r⟩:=Z6z w
  cases (show u=Value.ref a from r)
  obtain ⟨its,w1,pl,_⟩:=I.list hs
  have hi:=Z6l w1
  obtain ⟨xs,ex⟩:=hi.allInts.items
  have hl:s.heap.IsList a (intItems xs):=by
    have:=pl.isList
    rw [ex] at this
    exact this
  refine sum_intListG (I.ok.hd hc) hl fun h' tk t' hk=>?_
  refine ⟨.int ns.sum,H,I.kept hk,⟨t',?_⟩,q⟩
  have e1:=hi.numsOf
  have e2:(numsOf its.toArray.toList).sum=ns.sum:=by rw [show its.toArray.toList=its from rfl,e1]
  rw [ex,nums_intItems] at e2
  rw [preSum_eq,List.take_of_length_le (by simp),e2]
theorem Zas {p:Pos} (hcm:X.calm=true) (hg:Gl X "sum") (hm:X.mg "sum" = none) (ha:QE X m1 rs1 a fa) (he:starEach [a] X.env=(false,eval a X.env) :: starEach [] X.env:=by rfl) (hpl:(backTo pos (starEach [] X.env)).any (·.1)=false:=by rfl) :
    QE X m rs (.Call (.Name "sum" p) [a] [] pos) (fun env=>(Z02 fa fNil env).bind FSum) :=
  Z4r (Zbv hcm) hg hm PyProof.Rows.boot_sum (Z01 ha Z07 he) (fun ds d vs H fp Q e r q=>by
    unfold FSum at e
    split at e
    . rename_i ds'
      cases hq:Z5b ds' with
      | none=>rw [hq] at e; cases e
      | some ns =>
        rw [hq] at e
        cases e
        obtain ⟨v,rfl,r1⟩:=Z4o r
        obtain ⟨p,ws,fp',rfl,hsq,hr,hsub⟩:=Z0N r1
        rw [Z5G hq hr] at hsq
        exact ⟨p,ns,rfl,hsq,q _ _ [] (Same.refl H) Z2z (fun b hb=>(by cases hb)) List.nodup_nil⟩
    . cases e) (he:=he) (hpl:=hpl)
noncomputable def fCat (fa fb:En -> Option D):En -> Option D:=fun env=>match fa env,fb env with
  | some (.lst xs),some (.lst ys)=>if xs.length + ys.length <= 1000 then some (.lst (xs ++ ys)) else none
  | _,_=>none
theorem ZcT (ha:QE X true [] a fa) (hb:QE X true [] b fb):QE X true [] (.BinOp a .Add b pos) (fCat fa fb) :=
  .mk (L2.pe_op ZcZ ha hb) fun σ H Q ⟨env,F,d,ok,e,q⟩=>by
    unfold fCat at e
    split at e
    . rename_i xs ys h1 h2
      split at e
      . rename_i hl
        cases e
        refine ⟨env,F,_,ok,h1,fun v H1 f1 s1 r1 c1=>⟨env,F,_,ok.same s1,h2,fun u H2 f2 s2 r2 c2=>?_⟩⟩
        have r1':=r1.same s2
        obtain ⟨a1,vs,g1,rfl,rfl,ha1,hr1⟩:=Z3S r1'
        obtain ⟨a2,us,g2,rfl,rfl,ha2,hr2⟩:=Z3S r2
        refine ⟨a1,a2,vs,us,rfl,rfl,ha1,ha2,Z47 (by rw [hr1.length,hr2.length]; exact hl),fun p hp=>?_⟩
        have hc1:=c1.2 rfl
        have hc2:=c2.2 rfl
        have nd:(g1 ++ g2).Nodup:=by
          refine List.nodup_append.mpr ⟨(List.nodup_cons.mp hc1.1).2,(List.nodup_cons.mp hc2.1).2,fun x hx y hy z=>?_⟩
          obtain ⟨o,ho⟩:=Rep.dom _ _ _ r1 x (List.mem_cons_of_mem _ hx)
          rw [z,hc2.2 y (List.mem_cons_of_mem _ hy)] at ho
          cases ho
        have fr:∀ b ∈ g1 ++ g2,H b=none:=fun b hb=>(List.mem_append.mp hb).elim (fun z=>hc1.2 b (List.mem_cons_of_mem _ z)) fun z=>s1.free (hc2.2 b (List.mem_cons_of_mem _ z))
        exact q _ _ (p :: (g1 ++ g2)) ((s1.trans s2).trans (Z0O hp)) (Z4v hp (hr1.append hr2)) (Z4D (s1.trans s2) hp (hr1.append hr2) ⟨fun b hb=>.inl (fr b hb),fun _=>⟨nd,fr⟩⟩)
      . cases e
    . cases e
end
noncomputable def putP {α:Type} (nm:Str) (d:α):List Str -> List α -> Option (List Str × List α)
  | [],[]=>some ([nm],[d])
  | n :: ns,x :: xs=>if n=nm then some (n :: ns,d :: xs) else (putP nm d ns xs).map fun p=>(n :: p.1,x :: p.2)
  | _,_=>none
section
variable {X:Cx} {m m' m1 m2:Bool} {rs rs' rs1 rs2:List Nat} {e a b c:Expr} {es:List Expr} {f fa fb:En -> Option D} {fs:En -> Option (List D)} {pos p p2 pos':Pos} {i:Nat} {x nm:Str} {C:Addr}
end
noncomputable def spI (K:Frag) (C:Addr) (n:Nat) (f:List D -> Option D):Sp:=fun vs H Q _=>∃ x dx H0 us ds d fp,vs=.ref x :: us /\ H0 x=none /\ H0 dx=none /\ dx ≠ x /\ H=upd (upd H0 dx (.own x)) x (.ins C dx []) /\ ds.length=n /\ Reps K false H0 ds us fp /\ f ds=some d /\
  ∀ H' fp',Same H0 H' -> Rep K true H' d (.ref x) fp' -> (∀ b ∈ fp',H0 b=none) -> fp'.Nodup -> Q .non H'
theorem Zdm {K:Frag} {C:Addr} {n:Nat} {f:List D -> Option D} {vs:List V} {H:Hp} {Q:VK} {E:XK} (h:spI K C n f vs H Q E):vs.length=n + 1:=by
  obtain ⟨x,dx,H0,us,ds,d,fp,rfl,_,_,_,_,h1,h2,_⟩:=h
  rw [List.length_cons,h2.length,h1]
section
variable {X:Cx} {m m' m1 m2:Bool} {rs rs' rs1 rs2:List Nat} {e a b c:Expr} {es:List Expr} {f fa fb:En -> Option D} {fs:En -> Option (List D)} {pos p p2 pos':Pos} {i:Nat} {x nm:Str} {C:Addr}
theorem Zdy {k n:Nat} {fA:Addr} {fd:FuncData} {ps:List Str} {F':List D -> Option D} (M:Mk X.K C fA) (G:FnOk X.prog X.w X.K X.mg X.base CX0 k fA fd ps (spI X.K C n F')) (hr:Room (k + 1) X.A) (hg:Gl X x) (hm:X.mg x=some (.ref C)) (hb:Binds X.K fd ps []) (ha:QA X m1 rs1 (e :: es) fs) (hn:∀ env xs,fs env=some xs -> xs.length=n)
    (hdb:(x == ("__debug__" : Str))=false:=by decide) (he:starEach (e :: es) X.env=(false,eval e X.env) :: starEach es X.env:=by rfl) (hpl:(backTo pos (starEach es X.env)).any (·.1)=false:=by rfl) :
    QE X true [] (.Call (.Name x p) (e :: es) [] pos) (fun env=>(fs env).bind F') :=
  .mk (L2.pe_make M G hr hg hm hb .nil Zf4 ha hdb he hpl) fun σ H Q ⟨env,F,d,ok,e,q⟩=>by
    cases h1:fs env with
    | none=>simp only [h1] at e; cases e
    | some xs =>
      simp only [h1,Option.bind_some] at e
      refine ⟨env,F,xs,ok,h1,fun vs H1 fp s r c x dx hx hdx hne=>⟨x,dx,H1,vs ++ [],xs,d,fp,rfl,hx,hdx,hne,rfl,hn env xs h1,by rw [List.append_nil]; exact Reps.weak _ _ _ r,e,fun H' fp' s' r' fr nd=>⟨rfl,q _ H' fp' (s.trans s') r' ⟨fun b hb=>.inl (s.free (fr b hb)),fun _=>⟨nd,fun b hb=>s.free (fr b hb)⟩⟩⟩⟩⟩
end
section
variable {X:Cx} {m1:Bool} {rs1:List Nat} {e:Expr} {f:En -> Option D} {pos p p2 p3:Pos} {i:Nat} {x:Str} {k:Int}
end
structure Z0c (P:Program) (w:World) (K:Frag) (mg:Str -> Option Value) (base:Heap) (x:Str) (dds:List D) (k n:Nat) (F':List D -> Option D):Prop where
  ex:∃ fA fd ps dvs ds,FnOk P w K mg base CX0 k fA fd ps (spD K n F') /\ mg x=some (.ref fA) /\ keepIn K (.ref fA)=true /\ Binds K fd ps ds /\ Vals dvs ds /\ ∀ H,Reps K false H dds dvs []
noncomputable def Z0f (F':List D -> Option D) (dds:List D) (fs:En -> Option (List D)):En -> Option D:=fun env=>(fs env).bind fun xs=>F' (xs ++ dds)
noncomputable def fB1 (F':List D -> Option D) (fs:En -> Option (List D)):En -> Option D:=fun env=>(fs env).bind F'
noncomputable def sB1 (F':List D -> Option (List D)) (fs:En -> Option (List D)):En -> Option (List D):=fun env=>(fs env).bind F'
inductive NArgs:Nat -> (En -> Option (List D)) -> Prop
  | nil:NArgs 0 fNil
  | cons {n:Nat} {f:En -> Option D} {fs:En -> Option (List D)}:NArgs n fs -> NArgs (n + 1) (Z02 f fs)
theorem NArgs.len {n:Nat} {fs:En -> Option (List D)} (h:NArgs n fs):∀ env xs,fs env=some xs -> xs.length=n:=by
  induction h with
  | nil=>intro env xs e; cases e; rfl
  | cons h ih =>
    intro env xs e
    unfold Z02 at e
    split at e
    . rename_i d ds h1 h2
      cases e
      rw [List.length_cons,ih env _ h2]
    . cases e
section
variable {X:Cx} {m m' m1 m2:Bool} {rs rs' rs1 rs2:List Nat} {e a b c:Expr} {es:List Expr} {f fa fb:En -> Option D} {fs:En -> Option (List D)} {pos p p2 pos':Pos} {i:Nat} {x nm:Str} {C:Addr}
theorem Z0i {k n na:Nat} {dds:List D} {F':List D -> Option D} (c:Z0c X.prog X.w X.K X.mg X.base x dds k n F') (hr:Room k X.A) (hna:NArgs na fs) (hn:na + dds.length=n) (ha:QA X m1 rs1 (e :: es) fs) (hg:Gl X x:=by rfl)
    (hdb:(x == ("__debug__" : Str))=false:=by decide) (he:starEach (e :: es) X.env=(false,eval e X.env) :: starEach es X.env:=by rfl) (hpl:(backTo pos (starEach es X.env)).any (·.1)=false:=by rfl) :
    QE X true [] (.Call (.Name x p) (e :: es) [] pos) (Z0f F' dds fs):=by
  obtain ⟨fA,fd,ps,dvs,ds,G,hm,hk,hb,hd,hdd⟩:=c.ex
  exact ZdC G hr hg hm hk hb hd hdd ha (fun env xs h=>by rw [hna.len env xs h]; exact hn) hdb he hpl
structure ZbJ (P:Program) (w:World) (K:Frag) (mg:Str -> Option Value) (base:Heap) (x:Str) (C:Addr) (k n:Nat) (F':List D -> Option D):Prop where
  ex:∃ fA fd ps,Mk K C fA /\ FnOk P w K mg base CX0 k fA fd ps (spI K C n F') /\ mg x=some (.ref C) /\ Binds K fd ps []
theorem ZbZ {k n:Nat} {F':List D -> Option D} (c:ZbJ X.prog X.w X.K X.mg X.base x C k n F') (hr:Room (k + 1) X.A) (hna:NArgs n fs) (ha:QA X m1 rs1 (e :: es) fs) (hg:Gl X x:=by rfl)
    (hdb:(x == ("__debug__" : Str))=false:=by decide) (he:starEach (e :: es) X.env=(false,eval e X.env) :: starEach es X.env:=by rfl) (hpl:(backTo pos (starEach es X.env)).any (·.1)=false:=by rfl) :
    QE X true [] (.Call (.Name x p) (e :: es) [] pos) (fB1 F' fs):=by
  obtain ⟨fA,fd,ps,M,G,hm,hb⟩:=c.ex
  exact Zdy M G hr hg hm hb ha (fun env xs h=>hna.len env xs h) hdb he hpl
theorem Z1Q {k:Nat} {A:Around} (r:Room k A):A.units + 8 <= cLine:=by have:=r.un; omega
theorem Z2y {apos cpos:Pos} (i:Nat) (he:QE X true [] e f) (hN:X.N[i]? = some x:=by rfl) (hv:Vis X.env.scope x:=by first | exact Or.inl rfl | exact Or.inr (Or.inl rfl) | exact Or.inr (Or.inr rfl)) (hd:(x == ("__debug__" : Str))=false:=by decide) (hcd:(x == ("__classdict__" : Str))=false:=by decide)
    (hbase:attributeBase (.Name x p) "append" X.env (eval (.Name x p) X.env)=eval (.Name x p) X.env:=by rfl)
    (hfew:((backTo cpos (starEach [e] X.env)).all (fun x=>!x.1) && (backToKw cpos (keywordEach [] X.env)).all (fun x=>x.1.isSome)
      && decide (([e]:List Expr).length + ([]:List Keyword).length + (if ([]:List Keyword).isEmpty then 0 else 1) < 30))=true:=by rfl)
    (hline:(apos.endLine == cpos.line)=true:=by rfl) (hst:starEach [e] X.env=(false,eval e X.env) :: starEach [] X.env:=by rfl) (hplain:(backTo cpos (starEach [] X.env)).any (·.1)=false:=by rfl)
    (hs:swapsWith (.Call (.Attribute (.Name x p) "append" apos) [e] [] cpos) none pos.line X.env=pure false:=by rfl) :
    QS X (.Expr (.Call (.Attribute (.Name x p) "append" apos) [e] [] cpos) pos) (rApp i f) :=
  Zaq hN hv he hd hcd hst (hpe:=ZfT PySem.F.plainAttrs_list PySem.F.slot_list_append PySem.F.type_list_append Z7C (Z4s hN hv hd hcd) (Z4N he Z8S hst) hbase hfew hline hst hplain) (hs:=hs)
theorem Zap {k:Expr} {fk:En -> Option D} {spos:Pos} (i:Nat) (hk:QE X m2 rs2 k fk) (he:QE X m1 rs1 e f) (hN:X.N[i]? = some x:=by rfl) (hv:Vis X.env.scope x:=by first | exact Or.inl rfl | exact Or.inr (Or.inl rfl) | exact Or.inr (Or.inr rfl)) (hd:(x == ("__debug__" : Str))=false:=by decide) (hcd:(x == ("__classdict__" : Str))=false:=by decide)
    (ha:∀ v,assign (.Subscript (.Name x p) k spos) X.env v=(do
      let ov <- holding [v] (eval (.Name x p) X.env)
      let iv <- holding [v,ov] (eval k X.env)
      standAt spos
      holding [v,ov,iv] (setItem ov iv v)
      release [v,ov,iv] []):=by intro _; rfl)
    (hs:swapsWithSole [.Subscript (.Name x p) k spos] e pos.line X.env=pure false:=by rfl) (hw:swappedStores [.Subscript (.Name x p) k spos] e X.env=pure none:=by rfl) :
    QS X (.Assign [.Subscript (.Name x p) k spos] e pos) (rPut i fk f) :=
  ZeM hN hv he hk hd hcd (hps:=ZcV he (ZeY (Z4s hN hv hd hcd) hk ZbS ha) hs hw)
theorem Zdv {tg:Expr} {t:D -> En -> Option En} (he:QE X m rs e f) (hg:QG X tg t) (hs:swapsWithSole [tg] e pos.line X.env=pure false:=by rfl) (hw:swappedStores [tg] e X.env=pure none:=by rfl) (h1:(assignEach [tg] X.env).map (·.2)=[assign tg X.env]:=by rfl):QS X (.Assign [tg] e pos) (rUnp rs t f) :=
  ZeL he hg hs hw (hps:=ZcV he hg hs hw h1)
end
noncomputable def Z4I (i:Nat):En -> Res:=fun env=>match env[i]? with | some (some (true,d))=>.ret d | _=>.bad
noncomputable def Zah (i j:Nat):En -> Res:=fun env=>match env[i]?,env[j]? with
  | some (some (true,d)),some (some (true,d'))=>.ret (.tup [d,d'])
  | _,_=>.bad
section
variable {X:Cx} {m m' m1 m2:Bool} {rs rs' rs1 rs2:List Nat} {e a b c:Expr} {es:List Expr} {f fa fb:En -> Option D} {fs:En -> Option (List D)} {pos p p2 p3 pos':Pos} {i j:Nat} {x y:Str} {C:Addr}
theorem Zdw {k1:Nat} (hij:i ≠ j) (hN:X.N[i]? = some x:=by rfl) (hv:Vis X.env.scope x:=by first | exact Or.inl rfl | exact Or.inr (Or.inl rfl) | exact Or.inr (Or.inr rfl)) (hN2:X.N[j]? = some y:=by rfl) (hv2:Vis X.env.scope y:=by first | exact Or.inl rfl | exact Or.inr (Or.inl rfl) | exact Or.inr (Or.inr rfl))
    (hd:(x == ("__debug__" : Str))=false:=by decide) (hcd:(x == ("__classdict__" : Str))=false:=by decide) (hd2:(y == ("__debug__" : Str))=false:=by decide) (hcd2:(y == ("__classdict__" : Str))=false:=by decide)
    (h1:starEach [.Name x p,.Name y p2] X.env=(false,eval (.Name x p) X.env) :: starEach [.Name y p2] X.env:=by rfl) (h2:starEach [.Name y p2] X.env=(false,eval (.Name y p2) X.env) :: starEach [] X.env:=by rfl) :
    QS X (.Return (some (.Tuple [.Name x p,.Name y p2] k1 p3)) pos) (Zah i j):=.mk (Zaz (L2.pe_tup (Z4N (Z4s hN hv hd hcd) (Z4N (Z4s hN2 hv2 hd2 hcd2) Z8S h2) h1))) fun E σ H ⟨P,env,I,q⟩=>by
  obtain ⟨F,hF⟩:=I.ex
  unfold Zah at q
  split at q
  . rename_i d d' e1 e2
    obtain ⟨v,hv1,_⟩:=hF.ok i true d e1
    obtain ⟨a1,a2,a3,a4⟩:=hF.own i d e1
    obtain ⟨v',hv1',_⟩:=hF.ok j true d' e2
    obtain ⟨b1,b2,b3,b4⟩:=hF.own j d' e2
    refine ⟨v,hv1,v',hv1',by show 2 <= sizeLine; decide,fun q' hq=>?_⟩
    refine q _ _ (F i ++ F j) (I.same.trans (Z0O hq)) (Z6h hq ?_) (fun b hb=>(List.mem_append.mp hb).elim (a2 b) (b2 b)) (List.nodup_append.mpr ⟨a1,b1,fun s hs t ht z=>a4 j _ (Ne.symm hij) e2 s hs (z ▸ ht)⟩)
    simp only [Reps]
    exact ⟨v,[v'],F i,F j,rfl,rfl,a3 v hv1,v',[],F j,[],rfl,by simp,b3 v' hv1',rfl,rfl⟩
  . exact q.elim
theorem Zau {k:Nat} {i:Int} {pp:Pos}:QE X m rs (.UnaryOp .USub (.Constant (.int i) k pp) pos) (fC (.int (-i))) :=
  .mk (ZfR Zeu L2.pe_int) fun σ H Q ⟨env,F,d,ok,e,q⟩=>by cases e; exact ⟨i,rfl,q _ _ _ (Same.refl H) Z2z .nil⟩
end
theorem FunD.raw {P:Program} {w:World} {K:Frag} {mg:Str -> Option Value} {base:Heap} {x qual:Str} {st:Stmt} {f:Addr} {fd:FuncData} {N ps:List Str} {k:Nat} {sp:Sp} (F:FunD K x qual st f fd) (S:Z0p N ps (Z04 st)) (len:∀ vs H Q E,sp vs H Q E -> vs.length=ps.length)
    (hbody:∀ (cdv:Value) (A:Around) (outer:List Env) (s:Shared) (H:Hp) (vs:List V) (Q:VK) (E:XK),Room k (A.deeper (envOfC qual (Z04 st) s.heap.objs.size f cdv)) -> sp vs H Q E ->
      ∃ t,PSs (cxOf CX0 P w K mg base N qual (Z04 st) f cdv A outer s H E).nox (Z0a st) t /\ t { nx:=fun _ H'=>Q .non H',rt:=Q } (L2.start N vs) H):FnOk P w K mg base CX0 (k + 1) f fd ps sp:=by
  obtain ⟨oc,od,dV,kV,doc,pm,an,cdv,ct,osl,rfl,lk,hcd⟩:=F.ex
  refine Zef lk hcd S len fun A outer s H vs Q E hr hsp=>?_
  obtain ⟨t,h,q⟩:=hbody cdv A outer s H vs Q E hr hsp
  exact ⟨t,h.nox,q⟩
theorem Zg1 {K:Frag} {C x dx:Addr} {H0:Hp} {σ:L2.St} {us:List V} {ds:List D} {fp:List Addr} {n1 n2 n3:Str} {f1 f2 f3:En -> Option D} {env:En} {d1 d2 d3:D} {E:Ends} {F:Nat -> List Addr}
    (hx:H0 x=none) (hdx:H0 dx=none) (hne:dx ≠ x) (ok:EnvOk K H0 σ env F) (h0:σ[0]? = some (some (.ref x))) (e1:f1 env=some d1) (e2:f2 env=some d2) (e3:f3 env=some d3)
    (hC:Cls K C) (a1:NoAttr K C n1) (a2:NoAttr K C n2) (a3:NoAttr K C n3) (k12:¬ n1=n2) (k13:¬ n1=n3) (k23:¬ n2=n3)
    (q:∀ H' fp',Same H0 H' -> Rep K true H' (.obj C [n1,n2,n3] [d1,d2,d3]) (.ref x) fp' -> (∀ b ∈ fp',H0 b=none) -> fp'.Nodup -> E.nx σ H') :
    tSeq (sFld K (tVar 0) (tD K true [] f1) n1) (tSeq (sFld K (tVar 0) (tD K true [] f2) n2) (sFld K (tVar 0) (tD K true [] f3) n3)) E σ (upd (upd H0 dx (.own x)) x (.ins C dx [])):=by
  have hx':upd H0 dx (.own x) x=none:=by rw [Z0u (Ne.symm hne)]; exact hx
  have s0:Same H0 (upd (upd H0 dx (.own x)) x (.ins C dx [])):=(Z0O hdx).trans (Z0O hx')
  have stp:∀ {Ha Hb:Hp} {o:HO},Same H0 Ha -> Same Ha Hb -> Same H0 (upd Hb x o):=fun {Ha Hb o} sa sb b u e=>by
    rw [Z0u (Z0s e hx)]; exact sb _ _ (sa _ _ e)
  have p1:∀ y1:V,putF n1 y1 []=[(n1,y1)]:=fun _=>rfl
  have p2:∀ y1 y2:V,putF n2 y2 [(n1,y1)]=[(n1,y1),(n2,y2)]:=fun y1 y2=>by simp [putF,k12]
  have p3:∀ y1 y2 y3:V,putF n3 y3 [(n1,y1),(n2,y2)]=[(n1,y1),(n2,y2),(n3,y3)]:=fun y1 y2 y3=>by simp [putF,k13,k23]
  refine ⟨env,F,d1,ok.same s0,e1,fun y1 H1 g1 s1 r1 c1=>⟨.ref x,h0,x,C,dx,[],rfl,s1 _ _ Z0A,hC,a1,by show 0 < 1000; decide,?_⟩⟩
  rw [p1]
  have S1:Same H0 (upd H1 x (.ins C dx [(n1,y1)])):=stp s0 s1
  refine ⟨env,F,d2,ok.same S1,e2,fun y2 H2 g2 s2 r2 c2=>⟨.ref x,h0,x,C,dx,[(n1,y1)],rfl,s2 _ _ Z0A,hC,a2,by show 1 < 1000; decide,?_⟩⟩
  rw [p2]
  have S2:Same H0 (upd H2 x (.ins C dx [(n1,y1),(n2,y2)])):=stp S1 s2
  refine ⟨env,F,d3,ok.same S2,e3,fun y3 H3 g3 s3 r3 c3=>⟨.ref x,h0,x,C,dx,[(n1,y1),(n2,y2)],rfl,s3 _ _ Z0A,hC,a3,by show 2 < 1000; decide,?_⟩⟩
  rw [p3]
  have S3:Same H0 (upd H3 x (.ins C dx [(n1,y1),(n2,y2),(n3,y3)])):=stp S2 s3
  have x1:H1 x=some (.ins C dx []):=s1 _ _ Z0A
  have x2:H2 x=some (.ins C dx [(n1,y1)]):=s2 _ _ Z0A
  have x3:H3 x=some (.ins C dx [(n1,y1),(n2,y2)]):=s3 _ _ Z0A
  have hc1:=c1.2 rfl
  have hc2:=c2.2 rfl
  have hc3:=c3.2 rfl
  have nx1:x ∉ g1:=fun z=>by have:=hc1.2 x z; rw [Z0A] at this; cases this
  have nx2:x ∉ g2:=fun z=>by have:=hc2.2 x z; rw [Z0A] at this; cases this
  have nx3:x ∉ g3:=fun z=>by have:=hc3.2 x z; rw [Z0A] at this; cases this
  have ku:∀ {Ha:Hp} {o o':HO} {fp:List Addr},Ha x=some o -> (∀ xs,o ≠ .tup xs) -> (∀ a b,o ≠ .frz a b) -> x ∉ fp -> Kp fp Ha (upd Ha x o'):=fun h m f n=>Kp.upd h m f n
  have R1:=Rep.keep _ _ _ (ku (o':=.ins C dx [(n1,y1)]) x1 (by intro xs z; cases z) (by intro a b z; cases z) nx1) r1
  have R1':=Rep.keep _ _ _ (ku (o':=.ins C dx [(n1,y1),(n2,y2)]) x2 (by intro xs z; cases z) (by intro a b z; cases z) nx1) (R1.same s2)
  have R1'':=Rep.keep _ _ _ (ku (o':=.ins C dx [(n1,y1),(n2,y2),(n3,y3)]) x3 (by intro xs z; cases z) (by intro a b z; cases z) nx1) (R1'.same s3)
  have R2:=Rep.keep _ _ _ (ku (o':=.ins C dx [(n1,y1),(n2,y2)]) x2 (by intro xs z; cases z) (by intro a b z; cases z) nx2) r2
  have R2':=Rep.keep _ _ _ (ku (o':=.ins C dx [(n1,y1),(n2,y2),(n3,y3)]) x3 (by intro xs z; cases z) (by intro a b z; cases z) nx2) (R2.same s3)
  have R3:=Rep.keep _ _ _ (ku (o':=.ins C dx [(n1,y1),(n2,y2),(n3,y3)]) x3 (by intro xs z; cases z) (by intro a b z; cases z) nx3) r3
  have d12:∀ a ∈ g1,∀ b ∈ g2,a ≠ b:=fun a ha b hb z=>by
    obtain ⟨o,ho⟩:=Rep.dom _ _ _ R1 a ha
    rw [z,hc2.2 b hb] at ho; cases ho
  have d13:∀ a ∈ g1,∀ b ∈ g3,a ≠ b:=fun a ha b hb z=>by
    obtain ⟨o,ho⟩:=Rep.dom _ _ _ R1' a ha
    rw [z,hc3.2 b hb] at ho; cases ho
  have d23:∀ a ∈ g2,∀ b ∈ g3,a ≠ b:=fun a ha b hb z=>by
    obtain ⟨o,ho⟩:=Rep.dom _ _ _ R2 a ha
    rw [z,hc3.2 b hb] at ho; cases ho
  refine q _ (x :: (g1 ++ (g2 ++ (g3 ++ [])))) S3 ?_ (fun b hb=>?_) ?_
  . simp only [Rep,Reps]
    exact ⟨x,dx,[y1,y2,y3],g1 ++ (g2 ++ (g3 ++ [])),rfl,rfl,Z0A,rfl,y1,[y2,y3],g1,_,rfl,rfl,R1'',y2,[y3],g2,_,rfl,rfl,R2',y3,[],g3,[],rfl,rfl,R3,rfl,rfl⟩
  . rcases List.mem_cons.mp hb with z | z
    . rw [z]; exact hx
    . rw [List.append_nil] at z
      rcases List.mem_append.mp z with z | z
      . exact s0.free (hc1.2 b z)
      . rcases List.mem_append.mp z with z | z
        . exact S1.free (hc2.2 b z)
        . exact S2.free (hc3.2 b z)
  . rw [List.append_nil]
    refine List.nodup_cons.mpr ⟨fun z=>?_,List.nodup_append.mpr ⟨hc1.1,List.nodup_append.mpr ⟨hc2.1,hc3.1,d23⟩,fun a ha b hb=>?_⟩⟩
    . rcases List.mem_append.mp z with z | z
      . exact nx1 z
      . rcases List.mem_append.mp z with z | z
        . exact nx2 z
        . exact nx3 z
    . rcases List.mem_append.mp hb with z | z
      . exact d12 a ha b z
      . exact d13 a ha b z
end PD
namespace Att
open PySem PySem.W PySem.Calls PyProof.Rows
theorem Z42:∀ {ns:List Int} {i:Int},i ∈ ns -> WData.weight (.int i) <= WData.weightAll (ns.map WData.int)
  | [],i,h=>nomatch h
  | n :: ns,i,h=>by
    simp only [List.map_cons,WData.weightAll]
    rcases List.mem_cons.mp h with z | z
    . subst z; omega
    . have:=Z42 z; omega
theorem Z8v {ns:List Int} (h:WData.layableAll [WData.list (ns.map WData.int)]=true):∀ i ∈ ns,Builtin.Int.intBits i <= 1048576:=fun i hi=>by
  simp only [WData.layableAll,List.all_cons,List.all_nil,Bool.and_true,WData.layable,Bool.and_eq_true,decide_eq_true_eq,WData.weight] at h
  have h1:=Z42 hi
  have h2:WData.weight (.int i)=Builtin.Int.intBits i:=by simp only [WData.weight,Builtin.Int.intBits]
  rw [h2] at h1
  have h3:WData.weightAll (List.map WData.int ns) <= 2 ^ 20:=of_decide_eq_true h.2
  exact Nat.le_trans h1 h3
theorem attach_callB {l:OpenLaw} {n:Nat} {q:Program} {loose:List Str} {XP:(Str -> Option Value) -> Heap -> Prop} {YP:World -> Heap -> Prop} {d:DefRec}
    (hn:l.most=some n) (hdf:d.params.defaults=[])
    (call:∀ (w:World) (s₀ s₁:Shared) (mg mb:Str -> Option Value) (fa:Addr) (o:Obj) (pm cd doc:Value) (a:Addr) (vs:List Value) (ns:List Int),
      (∀ i ∈ ns,Builtin.Int.intBits i <= 1048576) -> Ground q loose [] XP w s₀ mg mb s₁.heap -> YP w s₁.heap ->
      s₁.heap.get? fa=some o -> o.data=.func (docDef d.name d.params d.body d.scope pm cd doc) -> s₁.heap.CodeRec cd d.name -> mg d.name=some (.ref fa) ->
      s₁.heap.get? a=some { cls:=.type "list",data:=.seq vs.toArray } -> IntsAre vs ns -> ns.length <= n -> s₁.gens = #[] ->
      codeAny (model l.prog w) callerA (.call (.ref fa) ⟨[.ref a],[]⟩) (fun r s'=>r=.ok (.ret (.bool true)) /\ OldK s₁.heap s'.heap /\ s'.os=s₁.os /\ AllBare s'.gens) s₁) :
    WalkO q loose XP YP l.row.toRowW d [] (fun f vs=>PySem.call f vs):=by
  intro w s₀ s₁ mg mb G Y fa o pm cd doc dV kV ho hd hcd hD hmg hg args vals as hpre hlay hrd hwl hlo
  obtain rfl:dV=.none:=Dflts.none hD hdf
  obtain rfl:kV=.none:=Dflts.noKw hD
  obtain ⟨a,vs,ns,rfl,rfl,hobj,hints,hlen⟩:=Zae hn hpre hwl
  refine enter_call (codeAny_mono (call w s₀ s₁ mg mb fa o pm cd doc a vs ns (Z8v hlay) G Y ho (fd_plain hd) hcd hmg hobj hints hlen hg) fun r s' hq=>?_)
  obtain ⟨rfl,h2,h3,h4⟩:=hq
  exact ⟨.inl ⟨.bool true,.bool true,[],rfl,fun _=>rfl,.bool true,ZaB l _,fun _=>⟨List.Pairwise.nil,fun _ hm=>(nomatch hm)⟩⟩,h2,h3,h4⟩
end Att
namespace PD
open PySem PySem.Spec PyProof.Rows L2
theorem Z3B {K:Frag} {H:Hp} {st:Bool}:∀ (ns:List Int),Reps K st H (ns.map D.int) (ns.map V.int) []
  | []=>by simp only [List.map_nil,Reps]; exact ⟨trivial,trivial⟩
  | n :: ns=>by simp only [List.map_cons,Reps]; exact ⟨.int n,ns.map V.int,[],[],rfl,rfl,Z2z,Z3B ns⟩
theorem walkD {l:PySem.W.OpenLaw} {n k:Nat} {q:Program} {loose:List Str} {XP:(Str -> Option Value) -> Heap -> Prop} {YP:World -> Heap -> Prop} {d:DefRec} {K:Params -> Frag} {x:Str}
    (hn:l.most=some n) (hn2:n <= sizeLine) (hdf:d.params.defaults=[]) (hr:Room k callerA)
    (hY:∀ (w:World) (h:Heap),YP w h -> (K w.params).In h)
    (F:∀ (w:World) (mg:Str -> Option Value) (fa:Addr) (h:Heap),(K w.params).In h -> h.Ns mainGlobals mg -> mg d.name=some (.ref fa) ->
      ∃ (fd:FuncData) (m:List D -> Option D),(∀ (s:Shared) (u:Value),BindsTo s fd ⟨[u],[]⟩ [(x,u)]) /\ (∀ ns:List Int,ns.length <= n -> (∀ i ∈ ns,Builtin.Int.intBits i <= 1048576) -> m [.lst (ns.map D.int)]=some (.bl true)) /\
        ∀ base:Heap,(K w.params).In base -> base.Ns mainGlobals mg -> FnOk l.prog w (K w.params) mg base CX0 k fa fd [x] (spD (K w.params) 1 m)) :
    PySem.W.WalkO q loose XP YP l.row.toRowW d [] (fun f vs=>PySem.call f vs):=by
  refine Att.attach_callB hn hdf fun w s₀ s₁ mg mb fa o pm cd doc a vs ns hbits G Y ho hd hcd hmg hobj hints hlen hg=>?_
  have KX:=hY w _ Y
  obtain ⟨fd,m,hb,hm,hF⟩:=F w mg fa _ KX G.T.g hmg
  refine Zco KX G.T.g G.T.b G.T.builtins G.T.nolimit hg hobj hints (Nat.le_trans hlen hn2) hr hF hb (fun H hO hS=>?_) fun H e s' z=>z
  have hrep:∃ fp,Reps (K w.params) false H [.lst (ns.map D.int)] [.ref a] fp:=by
    rcases ZbR hS with z | z
    . refine ⟨[a],?_⟩
      simp only [Reps,Rep]
      exact ⟨.ref a,[],[a],[],rfl,rfl,⟨a,_,[],rfl,Z3B ns,.inl ⟨rfl,z⟩⟩,rfl,rfl⟩
    . refine ⟨[],?_⟩
      simp only [Reps,Rep]
      exact ⟨.ref a,[],[],[],rfl,rfl,⟨a,_,[],rfl,Z3B ns,.inr ⟨trivial,rfl,z⟩⟩,rfl,rfl⟩
  obtain ⟨fp,hrep⟩:=hrep
  exact ⟨_,_,fp,rfl,hrep,hm ns hlen hbits,fun v H' fp' _ r _ _=>Z3p r⟩
noncomputable def CShl (i j:Int):Prop:=0 <= j /\ (Builtin.Int.intBits i:Int) + j <= 2 ^ 27
theorem Z2v {X:Cx}:OpR X (binaryOp .LShift) (rI CShl fun i j=>.int (i * 2 ^ j.toNat)):=opI fun _ _ _ _ _ _ _ hc q=>PyProof.Rows.lshift_int hc.1 hc.2 q
theorem Z8t {i j:Int} {n:Nat} (h:Builtin.Int.intBits i <= n) (h0:0 <= j) (h1:(n:Int) + j <= 100000000):CShl i j:=by
  have e:(2:Int) ^ 27=134217728:=by decide
  refine ⟨h0,?_⟩
  rw [e]
  omega
theorem Z70 {j:Int} (h0:0 <= j) (h1:j <= 1000000):CShl 1 j:=Z8t (n:=64) (PySem.intBits_le_64 (by decide) (by decide)) h0 (by omega)
theorem qp {X:Cx} {e:Expr} {f:En -> Option D} (h:QE X true [] e f):QE X true [] e f:=h
open PySem PySem.Spec PyProof.Rows L2 PySem.SeqAt
section
variable {X:Cx} {pins:List (Addr × Obj)} {σ:L2.St} {H:Hp} {s:Shared}
theorem Zcf {p:Addr} {xs ys:Array Value} (h1:s.heap.IsTuple p xs) (h2:s.heap.IsList p ys):False:=by
  obtain ⟨o,a1,a2,_⟩:=h1
  obtain ⟨o',b1,b2,_⟩:=h2
  rw [a1] at b1
  cases b1
  rw [a2] at b2
  exact absurd b2 (by simp)
noncomputable def Z9g:D -> Prop
  | .obj _ _ _=>False
  | .dk _ _=>False
  | .dt _ _=>False
  | .exc _=>False
  | _=>True
theorem Zeg {n:Nat} {C:Addr} {ns:List Str} {xs:List D} {x:D}:eqN n (.obj C ns xs) x=none:=by cases n <;> cases x <;> simp only [eqN]
theorem Zfp {n:Nat} {ns:List Key} {xs:List D} {x:D}:eqN n (.dk ns xs) x=none:=by cases n <;> cases x <;> simp only [eqN]
theorem Zfo {n:Nat} {ns:List (List Key)} {xs:List D} {x:D}:eqN n (.dt ns xs) x=none:=by cases n <;> cases x <;> simp only [eqN]
theorem Zei {n:Nat} {C:Addr} {x:D}:eqN n (.exc C) x=none:=by cases n <;> cases x <;> simp only [eqN]
theorem Z7o {n:Nat} {a x:D} {k:Bool} (e:eqN n a x=some k):Z9g a:=by
  cases a with
  | obj C ns xs=>rw [Zeg] at e; cases e
  | dk ns xs=>rw [Zfp] at e; cases e
  | dt ns xs=>rw [Zfo] at e; cases e
  | exc C=>rw [Zei] at e; cases e
  | _=>trivial
theorem ZbU {st1 st2:Bool} (I:Inv X pins σ H s) {a b:D} {v:V} {f1 f2:List Addr} (ra:Rep X.K st1 H a v f1) (rb:Rep X.K st2 H b v f2) (ha:Z9g a) (hb:Z9g b) :
    a=b \/ (∃ xs ys vs g1 g2,a=.tup xs /\ b=.tup ys /\ Reps X.K st1 H xs vs g1 /\ Reps X.K st2 H ys vs g2) \/ (∃ xs ys vs g1 g2,a=.lst xs /\ b=.lst ys /\ Reps X.K st1 H xs vs g1 /\ Reps X.K st2 H ys vs g2):=by
  have tl:∀ {xs ys:List D} {st st':Bool} {v:V} {g g':List Addr},Rep X.K st H (.tup xs) v g -> Rep X.K st' H (.lst ys) v g' -> False:=by
    intro xs ys st st' v g g' r1 r2
    simp only [Rep] at r1
    obtain ⟨p,vs,rfl,hs,_⟩:=r1
    obtain ⟨p',us,_,e,hs',_,_⟩:=Z0N r2
    cases e
    obtain ⟨_,_,pl,_⟩:=I.tuple hs
    obtain ⟨_,_,pl2,_⟩:=I.list hs'
    exact Zcf pl pl2.isList
  have sc:∀ {d:D} {st:Bool} {v:V} {g:List Addr},Rep X.K st H d v g -> Z9g d -> (∀ p,v ≠ .ref p) -> (d=.non /\ v=.non) \/ (∃ b,d=.bl b /\ v=.bl b) \/ (∃ i,d=.int i /\ v=.int i) \/ (∃ z,d=.str z /\ v=.str z):=by
    intro d st v g r ho hv
    cases d with
    | non=>exact .inl ⟨rfl,Z2t r⟩
    | bl b=>exact .inr (.inl ⟨b,rfl,Z3p r⟩)
    | int b=>exact .inr (.inr (.inl ⟨b,rfl,Z0B r⟩))
    | str b=>exact .inr (.inr (.inr ⟨b,rfl,Z21 r⟩))
    | tup xs=>simp only [Rep] at r; obtain ⟨p,_,e,_⟩:=r; exact absurd e (hv p)
    | lst xs=>obtain ⟨p,_,_,e,_⟩:=Z0N r; exact absurd e (hv p)
    | obj _ _ _=>exact ho.elim
    | dk _ _=>exact ho.elim
    | dt _ _=>exact ho.elim
    | exc _=>exact ho.elim
  by_cases hv:∃ p,v=.ref p
  . obtain ⟨p,rfl⟩:=hv
    cases a with
    | non=>have:=Z2t ra; cases this
    | bl b=>have:=Z3p ra; cases this
    | int b=>have:=Z0B ra; cases this
    | str b=>have:=Z21 ra; cases this
    | obj _ _ _=>exact ha.elim
    | dk _ _=>exact ha.elim
    | dt _ _=>exact ha.elim
    | exc _=>exact ha.elim
    | tup xs =>
      cases b with
      | non=>have:=Z2t rb; cases this
      | bl b=>have:=Z3p rb; cases this
      | int b=>have:=Z0B rb; cases this
      | str b=>have:=Z21 rb; cases this
      | obj _ _ _=>exact hb.elim
      | dk _ _=>exact hb.elim
      | dt _ _=>exact hb.elim
      | exc _=>exact hb.elim
      | lst ys=>exact (tl ra rb).elim
      | tup ys =>
        simp only [Rep] at ra rb
        obtain ⟨q,vs,e,hs,hr⟩:=ra
        obtain ⟨q',us,e',hs',hr'⟩:=rb
        cases e
        cases e'
        obtain rfl:=I.tuple_inj hs hs'
        exact .inr (.inl ⟨xs,ys,_,_,_,rfl,rfl,hr,hr'⟩)
    | lst xs =>
      cases b with
      | non=>have:=Z2t rb; cases this
      | bl b=>have:=Z3p rb; cases this
      | int b=>have:=Z0B rb; cases this
      | str b=>have:=Z21 rb; cases this
      | obj _ _ _=>exact hb.elim
      | dk _ _=>exact hb.elim
      | dt _ _=>exact hb.elim
      | exc _=>exact hb.elim
      | tup ys=>exact (tl rb ra).elim
      | lst ys =>
        obtain ⟨q,vs,_,e,hs,hr,_⟩:=Z0N ra
        obtain ⟨q',us,_,e',hs',hr',_⟩:=Z0N rb
        cases e
        cases e'
        obtain rfl:=I.list_inj hs hs'
        exact .inr (.inr ⟨xs,ys,_,_,_,rfl,rfl,hr,hr'⟩)
  . have hv':∀ p,v ≠ .ref p:=fun p e=>hv ⟨p,e⟩
    left
    rcases sc ra ha hv' with ⟨rfl,h⟩ | ⟨b',rfl,h⟩ | ⟨i,rfl,h⟩ | ⟨z,rfl,h⟩ <;> rcases sc rb hb hv' with ⟨rfl,k⟩ | ⟨b'',rfl,k⟩ | ⟨j,rfl,k⟩ | ⟨y,rfl,k⟩ <;> first | rfl | (have z:=h.symm.trans k; cases z; rfl) | (have z:=h.symm.trans k; cases z; done)
theorem ZcA {st1 st2:Bool} (I:Inv X pins σ H s):∀ (n:Nat) (a b x:D) (v:V) (f1 f2:List Addr) (k k':Bool),Rep X.K st1 H a v f1 -> Rep X.K st2 H b v f2 -> eqN n a x=some k -> eqN n b x=some k' -> k=k':=by
  intro n
  induction n with
  | zero=>intro a b x v f1 f2 k k' _ _ e; simp [eqN] at e
  | succ n ih =>
    have seq:∀ (xs ys zs:List D) (vs:List V) (f1 f2:List Addr) (k k':Bool),Reps X.K st1 H xs vs f1 -> Reps X.K st2 H ys vs f2 -> eqL (eqN n) xs zs=some k -> eqL (eqN n) ys zs=some k' -> k=k':=by
      intro xs
      induction xs with
      | nil =>
        intro ys zs vs f1 f2 k k' r1 r2 e e'
        have l1:=r1.length
        have l2:=r2.length
        have:ys=[]:=by rw [<- List.length_eq_zero_iff,<- l2,l1]; rfl
        subst this
        rw [e] at e'; cases e'; rfl
      | cons x xs ihx =>
        intro ys zs vs f1 f2 k k' r1 r2 e e'
        cases ys with
        | nil =>
          have l1:=r1.length
          have l2:=r2.length
          rw [l1] at l2; simp at l2
        | cons y ys =>
          cases zs with
          | nil=>simp only [eqL] at e e'; cases e; cases e'; rfl
          | cons z zs =>
            simp only [Reps] at r1 r2
            obtain ⟨v,us,g1,g2,rfl,_,a1,a2⟩:=r1
            obtain ⟨v',us',g3,g4,e0,_,b1,b2⟩:=r2
            cases e0
            simp only [eqL] at e e'
            split at e
            . rename_i c d h1 h2
              cases e
              split at e'
              . rename_i c' d' h1' h2'
                cases e'
                rw [ih _ _ _ _ _ _ _ _ a1 b1 h1 h1',ihx _ _ _ _ _ _ _ a2 b2 h2 h2']
              . cases e'
            . cases e
    intro a b x v f1 f2 k k' ra rb e e'
    have ha:=Z7o e
    have hb:=Z7o e'
    rcases ZbU I ra rb ha hb with rfl | ⟨xs,ys,vs,g1,g2,rfl,rfl,r1,r2⟩ | ⟨xs,ys,vs,g1,g2,rfl,rfl,r1,r2⟩
    . rw [e] at e'; cases e'; rfl
    . have l1:=r1.length
      have l2:=r2.length
      cases x with
      | tup zs =>
        simp only [eqN] at e e'
        cases h1:eqL (eqN n) xs zs with
        | none=>rw [h1] at e; cases e
        | some c =>
          cases h2:eqL (eqN n) ys zs with
          | none=>rw [h2] at e'; cases e'
          | some c' =>
            rw [h1] at e; rw [h2] at e'
            cases e; cases e'
            rw [seq _ _ _ _ _ _ _ _ r1 r2 h1 h2,<- l1,<- l2]
      | non=>simp only [eqN] at e e'; cases e; cases e'; rfl
      | _=>simp only [eqN] at e; cases e
    . have l1:=r1.length
      have l2:=r2.length
      cases x with
      | lst zs =>
        simp only [eqN] at e e'
        by_cases hl:vs.length=zs.length
        . rw [if_pos (by omega)] at e e'
          exact seq _ _ _ _ _ _ _ _ r1 r2 e e'
        . rw [if_neg (by omega)] at e e'
          cases e; cases e'; rfl
      | non=>simp only [eqN] at e e'; cases e; cases e'; rfl
      | _=>simp only [eqN] at e; cases e
end
noncomputable def inD (x:D):List D -> Option Bool
  | []=>some false
  | y :: ys=>match eqN 8 y x,inD x ys with
    | some a,some b=>some (a || b)
    | _,_=>none
theorem Zb5 {x:D}:∀ {ys:List D} {k:Bool},inD x ys=some k -> (∀ (i:Nat) (y:D),ys[i]? = some y -> ∃ c,eqN 8 y x=some c) /\ (k=true ↔ ∃ (i:Nat) (y:D),ys[i]? = some y /\ eqN 8 y x=some true)
  | [],k,h=>by simp only [inD] at h; cases h; exact ⟨fun i y e=>by simp at e,by simp⟩
  | y :: ys,k,h=>by
    simp only [inD] at h
    split at h
    . rename_i a b h1 h2
      cases h
      obtain ⟨g1,g2⟩:=Zb5 h2
      refine ⟨fun i z e=>?_,?_⟩
      . cases i with
        | zero=>simp at e; subst e; exact ⟨a,h1⟩
        | succ i=>exact g1 i z (by simpa using e)
      . rw [Bool.or_eq_true,g2]
        constructor
        . rintro (z | ⟨i,z,e1,e2⟩)
          . exact ⟨0,y,rfl,by rw [h1,z]⟩
          . exact ⟨i + 1,z,by simpa using e1,e2⟩
        . rintro ⟨i,z,e1,e2⟩
          cases i with
          | zero=>simp at e1; subst e1; rw [h1] at e2; cases e2; exact .inl rfl
          | succ i=>exact .inr ⟨i,z,by simpa using e1,e2⟩
    . cases h
section
variable {X:Cx} {pins:List (Addr × Obj)} {σ:L2.St} {H:Hp} {s:Shared}
theorem Z8W {st1 st2:Bool} (I:Inv X pins σ H s) {A:Around} {x:D} {ys:List D} {v:V} {vs:List V} {u:Value} {its:List Value} {f g:List Addr} {k:Bool} (hu:A.units + 8 <= cLine) (rx:Rep X.K st1 H x v f) (rv:RelV v u) (r:Reps X.K st2 H ys vs g) (w:Vals vs its) (h:inD x ys=some k) :
    ∃ e:Value -> Bool,(∀ y ∈ its,EqAt A s y u (e y)) /\ its.any e=k:=by
  obtain ⟨h1,h2⟩:=Zb5 h
  classical
  have at_:∀ (i:Nat) (y:Value),its[i]? = some y -> ∃ (z:D) (vz:V) (fz:List Addr),ys[i]? = some z /\ Rep X.K st2 H z vz fz /\ RelV vz y:=by
    intro i y e
    have hi:i < its.length:=(List.getElem?_eq_some_iff.mp e).1
    have l1:=r.length
    have l2:=w.length
    have hy:i < ys.length:=by omega
    obtain ⟨vz,fz,a1,a2,_⟩:=r.get (List.getElem?_eq_getElem hy)
    obtain ⟨y',c1,c2⟩:=w.get a1
    rw [e] at c1; cases c1
    exact ⟨_,vz,fz,List.getElem?_eq_getElem hy,a2,c2⟩
  let e:Value -> Bool:=fun y=>decide (∃ (i:Nat) (z:D),its[i]? = some y /\ ys[i]? = some z /\ eqN 8 z x=some true)
  have key:∀ (i:Nat) (y:Value) (z:D) (c:Bool),its[i]? = some y -> ys[i]? = some z -> eqN 8 z x=some c -> e y=c:=by
    intro i y z c a1 a2 a3
    by_cases hh:∃ (i:Nat) (z:D),its[i]? = some y /\ ys[i]? = some z /\ eqN 8 z x=some true
    . have:e y=true:=decide_eq_true hh
      rw [this]
      obtain ⟨j,z',b1,b2,b3⟩:=hh
      obtain ⟨z1,v1,g1,c1,c2,c3⟩:=at_ i y a1
      obtain ⟨z2,v2,g2,d1,d2,d3⟩:=at_ j y b1
      rw [a2] at c1; cases c1
      rw [b2] at d1; cases d1
      have hvv:v1=v2:=RelV.inj c3 d3
      subst hvv
      exact (ZcA I 8 _ _ _ _ _ _ _ _ d2 c2 b3 a3)
    . have:e y=false:=decide_eq_false hh
      rw [this]
      cases c with
      | false=>rfl
      | true=>exact absurd ⟨i,z,a1,a2,a3⟩ hh
  refine ⟨e,fun y hy=>?_,?_⟩
  . obtain ⟨i,hi⟩:=List.getElem?_of_mem hy
    obtain ⟨z,vz,g,c1,c2,c3⟩:=at_ i y hi
    obtain ⟨c,hc⟩:=h1 i z c1
    rw [key i y z c hi c1 hc]
    exact (Zfn I 8 A z x vz v y u g f c hu c2 rx c3 rv hc).1
  . rw [Bool.eq_iff_iff,List.any_eq_true,h2]
    constructor
    . rintro ⟨y,hy,he⟩
      have:=of_decide_eq_true he
      obtain ⟨i,z,_,a2,a3⟩:=this
      exact ⟨i,z,a2,a3⟩
    . rintro ⟨i,z,a2,a3⟩
      have l1:=r.length
      have l2:=w.length
      have hi:i < its.length:=by have:=(List.getElem?_eq_some_iff.mp a2).1; omega
      exact ⟨its[i],List.getElem_mem hi,by rw [key i _ z true (List.getElem?_eq_getElem hi) a2 a3]⟩
end
section
variable {X:Cx} {m m' m1 m2:Bool} {rs rs' rs1 rs2:List Nat} {e a b c:Expr} {fa fb:En -> Option D} {pos:Pos}
noncomputable def inF:D -> D -> Option Bool
  | x,.lst ys=>inD x ys
  | x,.tup ys=>inD x ys
  | .str i,.str j=>some (!(Builtin.Str.occurrences j i 0 j.length 1).isEmpty)
  | _,_=>none
noncomputable def fIn (fa fb:En -> Option D):En -> Option Bool:=fun env=>match fa env,fb env with
  | some x,some y=>inF x y
  | _,_=>none
noncomputable def rInD (neg:Bool) (K:Frag):R2:=fun v u H Q=>∃ a b f1 f2 k st1 st2,Rep K st1 H a v f1 /\ Rep K st2 H b u f2 /\ inF a b=some k /\ Q (.bl (if neg then !k else k)) H
theorem Zf5 (hu:X.A.units + 9 <= cLine):OpR X (compareOp .In) (rInD false X.K):=by
  rintro pins s σ H x y v u Q I rx ry ⟨a,b,f1,f2,k,st1,st2,r1,r2,e,q⟩
  cases b with
  | lst ys =>
    obtain ⟨p,vs,_,rfl,hs,hr,_⟩:=Z0N r2
    cases ry
    obtain ⟨its,w,pl,hz⟩:=I.list hs
    obtain ⟨ee,h1,h2⟩:=Z8W (A:=X.A.in1) I (by rw [Z3K]; omega) r1 rx hr w (show inD a ys=some k from e)
    refine SeqAt.in_listAt ee pl.isList (fun y hy=>h1 y (by simpa using hy)) ⟨.bl _,H,I,rfl,?_⟩
    rw [show its.toArray.any ee=its.any ee by simp,h2]
    exact q
  | tup ys =>
    simp only [Rep] at r2
    obtain ⟨p,vs,rfl,hs,hr⟩:=r2
    cases ry
    obtain ⟨its,w,pl,hz⟩:=I.tuple hs
    obtain ⟨ee,h1,h2⟩:=Z8W (A:=X.A.in1) I (by rw [Z3K]; omega) r1 rx hr w (show inD a ys=some k from e)
    refine SeqAt.in_tupleAt ee pl (fun y hy=>h1 y (by simpa using hy)) ⟨.bl _,H,I,rfl,?_⟩
    rw [show its.toArray.any ee=its.any ee by simp,h2]
    exact q
  | str j =>
    cases a with
    | str i =>
      have e1:=Z21 r1
      have e2:=Z21 r2
      subst e1 e2
      have e3:k=_:=(Option.some.inj e).symm
      subst e3
      exact ZaI pins s σ H _ _ v u Q I rx ry ⟨i,j,rfl,rfl,q⟩
    | _=>simp only [inF] at e; cases e
  | _=>cases a <;> (simp only [inF] at e; cases e)
theorem ZaH (hu:X.A.units + 9 <= cLine):OpR X (compareOp .NotIn) (rInD true X.K):=by
  rintro pins s σ H x y v u Q I rx ry ⟨a,b,f1,f2,k,st1,st2,r1,r2,e,q⟩
  cases b with
  | lst ys =>
    obtain ⟨p,vs,_,rfl,hs,hr,_⟩:=Z0N r2
    cases ry
    obtain ⟨its,w,pl,hz⟩:=I.list hs
    obtain ⟨ee,h1,h2⟩:=Z8W (A:=X.A.in1) I (by rw [Z3K]; omega) r1 rx hr w (show inD a ys=some k from e)
    refine SeqAt.notIn_listAt ee pl.isList (fun y hy=>h1 y (by simpa using hy)) ⟨.bl _,H,I,rfl,?_⟩
    rw [show its.toArray.any ee=its.any ee by simp,h2]
    exact q
  | tup ys =>
    simp only [Rep] at r2
    obtain ⟨p,vs,rfl,hs,hr⟩:=r2
    cases ry
    obtain ⟨its,w,pl,hz⟩:=I.tuple hs
    obtain ⟨ee,h1,h2⟩:=Z8W (A:=X.A.in1) I (by rw [Z3K]; omega) r1 rx hr w (show inD a ys=some k from e)
    refine SeqAt.notIn_tupleAt ee pl (fun y hy=>h1 y (by simpa using hy)) ⟨.bl _,H,I,rfl,?_⟩
    rw [show its.toArray.any ee=its.any ee by simp,h2]
    exact q
  | str j =>
    cases a with
    | str i =>
      have e1:=Z21 r1
      have e2:=Z21 r2
      subst e1 e2
      have e3:k=_:=(Option.some.inj e).symm
      subst e3
      exact Z7s pins s σ H _ _ v u Q I rx ry ⟨i,j,rfl,rfl,q⟩
    | _=>simp only [inF] at e; cases e
  | _=>cases a <;> (simp only [inF] at e; cases e)
theorem Z5i {env:En} {bb:Bool} (e:fIn fa fb env=some bb):∃ x y,fa env=some x /\ fb env=some y /\ inF x y=some bb:=by
  unfold fIn at e
  split at e
  . rename_i x y h1 h2; exact ⟨x,y,h1,h2,e⟩
  . cases e
theorem ZfK (hu:X.A.units + 9 <= cLine) (ha:QE X m1 rs1 a fa) (hb:QE X m2 rs2 b fb) (hm:behindInMarks .In b=false:=by with_unfolding_all rfl):QT X (.Compare a [.In] [b] pos) (fIn fa fb) :=
  Z7l (Zf5 hu) ha hb hm (fun env x y K H v u f1 f2 Q bb e ea eb r1 r2 hK q=>by
    subst hK
    obtain ⟨x',y',h1,h2,h3⟩:=Z5i e
    rw [ea] at h1; rw [eb] at h2; cases h1; cases h2
    exact ⟨x,y,f1,f2,bb,_,_,r1,r2,h3,q⟩) fun env bb e=>let ⟨x,y,h1,h2,_⟩:=Z5i e; ⟨x,y,h1,h2⟩
theorem Z8N (hu:X.A.units + 9 <= cLine) (ha:QE X m1 rs1 a fa) (hb:QE X m2 rs2 b fb) (hm:behindInMarks .NotIn b=false:=by with_unfolding_all rfl):QT X (.Compare a [.NotIn] [b] pos) (fNot (fIn fa fb)) :=
  Z7l (ZaH hu) ha hb hm (fun env x y K H v u f1 f2 Q bb e ea eb r1 r2 hK q=>by
    subst hK
    unfold fNot at e
    cases h:fIn fa fb env with
    | none=>rw [h] at e; cases e
    | some k =>
      rw [h] at e
      cases e
      obtain ⟨x',y',h1,h2,h3⟩:=Z5i h
      rw [ea] at h1; rw [eb] at h2; cases h1; cases h2
      exact ⟨x,y,f1,f2,k,_,_,r1,r2,h3,q⟩) fun env bb e=>by
    unfold fNot at e
    cases h:fIn fa fb env with
    | none=>rw [h] at e; cases e
    | some k=>obtain ⟨x,y,h1,h2,_⟩:=Z5i h; exact ⟨x,y,h1,h2⟩
theorem Zdr {k:Nat} {A:Around} (r:Room k A):A.units + 9 <= cLine:=by have:=r.un; omega
end
noncomputable def whD (c:En -> Option Bool) (g:En -> Res):Nat -> En -> Res
  | 0,_=>.bad
  | n + 1,env=>match c env with
    | some false=>.next env
    | some true=>match g env with
      | .next e=>whD c g n e
      | .cont e=>whD c g n e
      | .brk e=>.next e
      | .ret d=>.ret d
      | .bad=>.bad
    | none=>.bad
theorem Z6v {c:En -> Option Bool} {g:En -> Res}:∀ {n:Nat} {env:En},whD c g n env ≠ .bad -> whD c g (n + 1) env=whD c g n env
  | 0,env,h=>absurd rfl h
  | n + 1,env,h=>by
    unfold whD at h ⊢
    cases hc:c env with
    | none=>rfl
    | some b =>
      cases b with
      | false=>rfl
      | true =>
        rw [hc] at h
        simp only at h ⊢
        cases hg:g env with
        | next e=>rw [hg] at h; exact Z6v h
        | cont e=>rw [hg] at h; exact Z6v h
        | brk e=>rfl
        | ret d=>rfl
        | bad=>rfl
theorem Z9W {c:En -> Option Bool} {g:En -> Res} {n:Nat} {env:En} (h:whD c g n env ≠ .bad):∀ k,whD c g (n + k) env=whD c g n env
  | 0=>rfl
  | k + 1=>by
    have ih:=Z9W h k
    rw [show n + (k + 1)=n + k + 1 by omega,Z6v (by rw [ih]; exact h),ih]
theorem Zdd {c:En -> Option Bool} {g:En -> Res} {n m:Nat} {env:En} (h:whD c g n env ≠ .bad) (h':whD c g m env ≠ .bad):whD c g n env=whD c g m env:=by
  by_cases hl:n <= m
  . have:=Z9W h (m - n)
    rw [show n + (m - n)=m by omega] at this
    exact this.symm
  . have:=Z9W h' (n - m)
    rw [show m + (n - m)=n by omega] at this
    exact this
open Classical in
noncomputable def rWh (c:En -> Option Bool) (g:En -> Res):En -> Res:=fun env=>if h:∃ n,whD c g n env ≠ .bad then whD c g (Classical.choose h) env else .bad
theorem ZcR {c:En -> Option Bool} {g:En -> Res} {n:Nat} {env:En} (h:whD c g n env ≠ .bad):rWh c g env=whD c g n env:=by
  unfold rWh
  have hh:∃ n,whD c g n env ≠ .bad:=⟨n,h⟩
  rw [dif_pos hh]
  exact Zdd (Classical.choose_spec hh) h
section
variable {X:Cx} {c:Expr} {c':En -> Option Bool} {g:En -> Res} {body:List Stmt} {pos:Pos}
theorem Z8O (hp:PassesOwn (model X.prog X.w) X.A X.env X.xe) (hc:QT X c c') (hb:QSs X body g):QS X (.While c body [] pos) (rWh c' g) :=
  .mk (Zc6 hp hc hb) fun E σ H ⟨P,env,I,q⟩=>by
    by_cases hh:∃ n,whD c' g n env ≠ .bad
    . obtain ⟨n,hn⟩:=hh
      rw [ZcR hn] at q
      refine ⟨fun m σ' H'=>∃ env',SInv X.K P H' σ' env' /\ Post X.K P E (whD c' g m env'),⟨n,env,I,q⟩,?_⟩
      rintro m σ' H' ⟨env',I',q'⟩
      cases m with
      | zero=>exact q'.elim
      | succ m =>
        obtain ⟨F,hF⟩:=I'.ex
        unfold whD at q'
        cases hc':c' env' with
        | none=>rw [hc'] at q'; exact q'.elim
        | some b =>
          rw [hc'] at q'
          refine ⟨env',F,b,hF.ok,hc',fun H1 s1=>?_⟩
          cases b with
          | false=>exact q' σ' H1 (I'.grow s1)
          | true =>
            simp only at q'
            refine ⟨fun σ2 H2=>∃ env2,SInv X.K P H2 σ2 env2 /\ Post X.K P E (whD c' g m env2),fun σ2 H2 ⟨env2,I2,q2⟩=>⟨m,Nat.lt_succ_self _,env2,I2,q2⟩,P,env',I'.grow s1,?_⟩
            cases hg:g env' with
            | next e2=>rw [hg] at q'; exact fun σ4 H4 I4=>⟨e2,I4,q'⟩
            | cont e2=>rw [hg] at q'; exact fun σ4 H4 I4=>⟨e2,I4,q'⟩
            | brk e2=>rw [hg] at q'; exact fun σ4 H4 I4=>q' σ4 H4 I4
            | ret d=>rw [hg] at q'; exact q'
            | bad=>rw [hg] at q'; exact q'.elim
    . unfold rWh at q
      rw [dif_neg hh] at q
      exact q.elim
end
section
variable {X:Cx} {m m' m1 m2:Bool} {rs rs' rs1 rs2:List Nat} {e a b c o:Expr} {es:List Expr} {f fa fb fo fe:En -> Option D} {fs:En -> Option (List D)} {pos p apos cpos:Pos}
end
section
variable {X:Cx} {tg:Expr} {m1:Bool} {rs:List Nat} {a:Expr} {fa:En -> Option D}
end
noncomputable def esK:List (Str × Int) -> List DictEntry -> Prop
  | [],[]=>True
  | p :: kvs,e :: es=>((∃ t,e.key=.str p.1 t) /\ ∃ t,e.val=.int p.2 t) /\ esK kvs es
  | _,_=>False
structure Zgf (K:Frag) (P:Params) (mg:Str -> Option Value) (name:Str) (kvs:List (Str × Int)):Prop where
  ex:∃ a es n,mg name=some (.ref a) /\ K.lookup a=some ⟨.type "dict",none,.dict es n,#[]⟩ /\ PySem.W.KeysLit P es.toList /\ (a == sysModules)=false /\ esK kvs es.toList
section
variable {X:Cx} {m m' m1 m2:Bool} {rs rs' rs1 rs2:List Nat} {e:Expr} {fe:En -> Option D} {p apos cpos:Pos} {nm:Str} {kvs:List (Str × Int)}
end
structure ClsI (K:Frag) (C:Addr):Prop where
  cl:Cls K C
  ha:PySem.W.findIn K (.ref C) "__class__" = some (some (.builtin "object.__class__"))
  hn:PySem.W.specialIn K (.builtin "object.__class__") "__get__" = some (some (.builtin "getset_descriptor.__get__"))
  htk:PySem.W.takesIn K (.builtin "object.__class__")=some true
  hm:PySem.W.mroIn K C (.type "object")=some true
open Classical in
noncomputable def fIsC (C:Addr) (fa:En -> Option D):En -> Option D:=fun env=>match fa env with
  | some (.obj C' _ _)=>if C'=C then some (.bl true) else none
  | _=>none
section
variable {X:Cx} {m m1:Bool} {rs rs1:List Nat} {a:Expr} {fa:En -> Option D} {p p2 pos:Pos} {cn:Str} {C:Addr}
theorem Z9s (T:ClsI X.K C) (hg:Gl X "isinstance") (hm:X.mg "isinstance" = none) (ha:QE X m1 rs1 a fa) (hgc:Gl X cn) (hmc:X.mg cn=some (.ref C)) (hdc:(cn == ("__debug__" : Str))=false:=by decide)
    (he:starEach [a,.Name cn p2] X.env=(false,eval a X.env) :: starEach [.Name cn p2] X.env:=by rfl) (he2:starEach [.Name cn p2] X.env=(false,eval (.Name cn p2) X.env) :: starEach [] X.env:=by rfl) (hpl:(backTo pos (starEach [.Name cn p2] X.env)).any (·.1)=false:=by rfl) :
    QE X m rs (.Call (.Name "isinstance" p) [a,.Name cn p2] [] pos) (fIsC C fa) :=
  .mk (L2.pe_callB (r:=fun vs H Q=>∃ q dx fs,vs=[.ref q,.ref C] /\ H q=some (.ins C dx fs) /\ Q (.bl true) H)
      (fun pins s σ H xs us Q I w h=>by
        obtain ⟨q,dx,fs,rfl,hq,k⟩:=h
        obtain ⟨u,w',rfl,r1,r2⟩:=Zet w
        cases (show w'=Value.ref C from r2)
        exact Zb2 I r1 (.ins hq T.cl T.ha T.hn T.htk T.hm) (by unfold PySem.W.kitOne; simp) fun tk=>⟨.bl true,H,I.tok tk,rfl,k⟩)
      hg hm Z5Y (Z4N ha (Z4N (ZdR (v:=.ref C) hgc hmc rfl hdc) Z8S he2) he) (by decide) (by decide) he hpl) fun σ H Q ⟨env,F,d,ok,e,q⟩=>by
    unfold fIsC at e
    split at e
    . rename_i C' ns xs h1
      split at e
      . rename_i hC
        subst hC
        cases e
        refine ⟨env,F,_,ok,h1,fun v H' fp s r c=>?_⟩
        simp only [Rep] at r
        obtain ⟨a',dx,vs,fp',rfl,_,hh,_,_⟩:=r
        exact ⟨a',dx,_,rfl,hh,q _ _ _ s Z9C .nil⟩
      . cases e
    . cases e
end
section
variable {X:Cx} {m m1:Bool} {rs rs1:List Nat} {e:Expr} {f:En -> Option D} {p pos pos' bpos:Pos} {x y:Str} {i j:Nat}
noncomputable def Z48 (j i:Nat) (f:En -> Option D):En -> Res:=fun env=>match env[i]?,f env with
  | some (some (true,.lst xs)),some (.lst ys)=>if Z1m xs=true /\ xs.length + ys.length <= 1000 then .next (env.set j (some (true,.lst (xs ++ ys)))) else .bad
  | _,_=>.bad
theorem ZcD {K:Frag} {P H:Hp} {σ:L2.St} {env:En} {F:Nat -> List Addr} {xs ys:List D} {Q:VK} (hF:EnvS K P H σ env F) (ei:env[i]? = some (some (true,.lst xs))) (ef:f env=some (.lst ys)) (hx:Z1m xs=true) (hl:xs.length + ys.length <= 1000)
    (q:∀ v H' fp,Same H H' -> Rep K true H' (.lst (xs ++ ys)) v fp -> fp.Nodup -> (∀ b ∈ fp,H b=none) -> Q v H'):∃ v,σ[i]? = some (some v) /\ tD K true [] f σ H fun u H2=>rCat v u H2 Q:=by
  obtain ⟨v,hv1,_⟩:=hF.ok i true _ ei
  obtain ⟨a1,a2,a3,a4⟩:=hF.own i _ ei
  obtain ⟨a,vs,g1,rfl,eg,ha,hr⟩:=Z3S (a3 v hv1)
  obtain ⟨rfl,hr0⟩:=Reps.flat _ _ _ hx hr
  refine ⟨.ref a,hv1,env,F,.lst ys,hF.ok,ef,fun u H2 f2 s2 r2 c2=>?_⟩
  obtain ⟨b,us,g2,rfl,rfl,hb,hr2⟩:=Z3S r2
  have hc2:=c2.2 rfl
  refine ⟨a,b,vs,us,rfl,rfl,s2 _ _ ha,hb,Z47 (by rw [hr.length,hr2.length]; exact hl),fun p hp=>?_⟩
  have hr3:Reps K true H2 (xs ++ ys) (vs ++ us) ([] ++ g2):=((hr0 true).same s2).append hr2
  rw [List.nil_append] at hr3
  refine q _ _ (p :: g2) (s2.trans (Z0O hp)) (Z4v hp hr3) ?_ fun c hc=>?_
  . refine List.nodup_cons.mpr ⟨fun z=>?_,(List.nodup_cons.mp hc2.1).2⟩
    obtain ⟨o,ho⟩:=Reps.dom _ _ _ hr2 p z
    rw [hp] at ho; cases ho
  . rcases List.mem_cons.mp hc with z | z
    . rw [z]; exact s2.free hp
    . exact hc2.2 c (List.mem_cons_of_mem _ z)
theorem Z7m (j i:Nat) (hNd:X.N.Nodup) (hj:X.N[j]? = some y) (hy:Loc X.env.scope y) (he:QE X true [] e f) (hN:X.N[i]? = some x:=by rfl) (hv:Vis X.env.scope x:=by first | exact Or.inl rfl | exact Or.inr (Or.inl rfl) | exact Or.inr (Or.inr rfl)) (hd:(x == ("__debug__" : Str))=false:=by decide) (hcd:(x == ("__classdict__" : Str))=false:=by decide)
    (hs:swapsWith (.BinOp (.Name x p) .Add e bpos) (some (.Name y pos')) pos.line X.env=pure false:=by rfl) (hf:X.fn y=true \/ X.env.scope.names.lookup y=some .local:=by first | exact .inl rfl | exact .inr rfl | assumption) :
    QS X (.Assign [.Name y pos'] (.BinOp (.Name x p) .Add e bpos) pos) (Z48 j i f):=.mk (ZcU hNd hj hy (L2.pe_op ZcZ (Z4s hN hv hd hcd) he) hs hf) fun E σ H ⟨P,env,I,q⟩=>by
  obtain ⟨F,hF⟩:=I.ex
  unfold Z48 at q
  split at q
  . rename_i xs ys ei ef
    split at q
    . rename_i h
      exact ZcD hF.nrm ei ef h.1 h.2 fun v H' fp s r nd fr=>q _ _ (Z7e j I.same I.len hF.nrm s r nd fr)
    . exact q.elim
  . exact q.elim
end
section
variable {prog:Program} {w:World} {A:Around} {E:Value -> Shared -> Prop} {s:Shared}
end
noncomputable def Itd (lo:Int) (n:Nat):It:=⟨fun i _=>i < n,fun i H x H'=>H'=H /\ x=.int (lo - i),fun i _=>n <= i⟩
theorem Za2 {P:Program} {w:World} {K:Frag} {tg:Expr} (it:Addr) (lo:Int) (n:Nat):Turn P w K tg (Itd lo n) [it] it (fun i h=>IsRangeIter h it (lo + (i:Nat) * (-1)) ((n:Int) - (i:Nat)) (-1)) where
  mem:=by simp
  obj:=fun i h st b hb=>by
    have e:b=it:=by simpa using hb
    subst e
    exact ⟨_,st,fun v z=>by
      have z':Data.fields _=Data.cell v:=z
      cases z'⟩
  keep:=fun i h h' st k=>k it (by simp) _ st
  item:=by
    intro X hP hw hK hc i pins s σ H E I hf st hg
    subst hP hw hK
    obtain ⟨f0,f1,f2,f3,f4,f5⟩:=hf it (by simp)
    have W:=Walks.range (prog:=X.prog) (w:=X.w) (I.ok.hd hc) it lo (-1) n
    refine W.item i s _ _ hg st fun v h' tk hv st' kk=>?_
    obtain ⟨t,rfl⟩:=hv
    have I1:Inv X pins σ H { s with heap:=h',toks:=tk }:=I.turned (fun b o hb e=>kk b o (by simpa using hb) e) f0 f1 f3 f4 f5
    refine ⟨_,rfl,Zcx (s:={ s with heap:=h',toks:=tk }) (n := "range_iterator") st' rfl rfl (by decide) ⟨.int (lo - i),H,I1,⟨t,?_⟩,⟨rfl,rfl⟩,st',fun b hb=>(hf b hb).1⟩⟩
    rw [show lo + (i:Int) * -1=lo - i by omega]
  done:=by
    intro X hP hw hK hc i pins s σ H E I hf st hg
    subst hP hw hK
    obtain ⟨f0,f1,f2,f3,f4,f5⟩:=hf it (by simp)
    exact wpAny_pyNext_range_end (I.ok.hd hc) st (by have:n <= i:=hg; omega) fun h' eb=>⟨rfl,I.turned (t':=s.toks) (fun b o hb e=>eb b o hb e) f0 f1 f3 f4 f5⟩
  self:=fun _ _ _ _ _ st h=>wpAny_pyIter_rangeiter st h
section
variable {X:Cx} {tg:Expr}
end
theorem Z9M {K:Frag} {H0:Hp} (lo:Int) (n:Nat):Z8A K (Itd lo n) H0 ((List.range n).map fun (k:Nat)=>.int (lo - (k:Int))) []:=fun H k i=>by
  refine ⟨fun d hd=>?_,fun hl=>(show n <= i by simpa using hl)⟩
  rw [List.getElem?_map] at hd
  cases hdd:(List.range n)[i]? with
  | none=>rw [hdd] at hd; cases hd
  | some j =>
    rw [hdd] at hd
    cases hd
    obtain ⟨hlt,e⟩:=List.getElem?_eq_some_iff.mp hdd
    rw [List.getElem_range] at e
    subst e
    refine ⟨(show i < n by simpa using hlt),fun x H' y=>?_⟩
    obtain ⟨rfl,rfl⟩:=y
    exact ⟨Same.refl _,[],Z2z,fun b hb=>hb⟩
section
variable {X:Cx} {m1:Bool} {rs rs1:List Nat} {a:Expr} {fs:En -> Option (List D)} {pos:Pos}
end
theorem Z1X:∀ {a b:List Int},a.Perm b -> a.Pairwise (· <= ·) -> b.Pairwise (· <= ·) -> a=b
  | [],b,p,_,_=>(List.nil_perm.mp p).symm
  | x :: a,[],p,_,_=>by have:=p.length_eq; simp at this
  | x :: a,y :: b,p,h1,h2=>by
    have hx:x ∈ y :: b:=p.mem_iff.mp List.mem_cons_self
    have hy:y ∈ x :: a:=p.mem_iff.mpr List.mem_cons_self
    have e1:y <= x:=by
      rcases List.mem_cons.mp hx with z | z
      . omega
      . exact (List.pairwise_cons.mp h2).1 x z
    have e2:x <= y:=by
      rcases List.mem_cons.mp hy with z | z
      . omega
      . exact (List.pairwise_cons.mp h1).1 y z
    have e:x=y:=by omega
    subst e
    rw [Z1X (List.Perm.cons_inv p) (List.pairwise_cons.mp h1).2 (List.pairwise_cons.mp h2).2]
noncomputable def insI (x:Int):List Int -> List Int
  | []=>[x]
  | y :: r=>if x <= y then x :: y :: r else y :: insI x r
noncomputable def srtI:List Int -> List Int
  | []=>[]
  | x :: r=>insI x (srtI r)
theorem Z5K (x:Int):∀ r:List Int,(insI x r).Perm (x :: r)
  | []=>.refl _
  | y :: r=>by
    unfold insI
    split
    . exact .refl _
    . exact ((Z5K x r).cons y).trans (.swap x y r)
theorem Z5J (x:Int):∀ r:List Int,r.Pairwise (· <= ·) -> (insI x r).Pairwise (· <= ·)
  | [],_=>by simp [insI]
  | y :: r,h=>by
    obtain ⟨h1,h2⟩:=List.pairwise_cons.mp h
    unfold insI
    split
    . rename_i hxy
      refine List.pairwise_cons.mpr ⟨fun z hz=>?_,h⟩
      rcases List.mem_cons.mp hz with e | e
      . omega
      . have:=h1 z e; omega
    . rename_i hxy
      refine List.pairwise_cons.mpr ⟨fun z hz=>?_,Z5J x r h2⟩
      have hz':=(Z5K x r).mem_iff.mp hz
      rcases List.mem_cons.mp hz' with e | e
      . omega
      . exact h1 z e
theorem Z2q:∀ r:List Int,(srtI r).Perm r
  | []=>.refl _
  | x :: r=>(Z5K x (srtI r)).trans ((Z2q r).cons x)
theorem Z2k:∀ r:List Int,(srtI r).Pairwise (· <= ·)
  | []=>.nil
  | x :: r=>Z5J x _ (Z2k r)
noncomputable def Z75:List D -> Option D
  | [.lst ds]=>match Z5b ds with
    | some ns=>if ns.length < 64 then some (.lst ((srtI ns).map .int)) else none
    | none=>none
  | _=>none
section
variable {X:Cx} {m m1:Bool} {rs rs1:List Nat} {a:Expr} {fa:En -> Option D} {pos:Pos}
theorem Z3v {its:List Value} {ns:List Int} (h:IntsAre its ns):Vals (ns.map V.int) its:=by
  induction h with
  | nil=>exact .nil
  | cons n t h ih=>exact .cons ⟨t,rfl⟩ ih
theorem Z7U:CallR X (.builtin "sorted") (fun vs H Q=>∃ (a:Addr) (ns:List Int),vs=[.ref a] /\ SqL X.K H a (ns.map V.int) /\ ns.length < 64 /\ ∀ l,H l=none -> Q (.ref l) (upd H l (.lst ((srtI ns).map V.int)))):=fun pins s σ H xs us Q I w h=>by
  obtain ⟨a,ns,rfl,hs,h64,q⟩:=h
  obtain ⟨u,rfl,r⟩:=Z6z w
  cases (show u=Value.ref a from r)
  obtain ⟨its,w1,pl,hz⟩:=I.list hs
  have hi:=Z6l w1
  have hlen:=w1.length
  have hlen2:=IntsAre.length hi
  refine sorted_ints pl.isList hi (by omega) fun out ns' a1 a2 a3=>?_
  obtain ⟨e,he⟩:=sortedAll_at s.heap its out
  have hns:ns'=srtI ns:=Z1X (a2.trans (Z2q ns).symm) a3 (Z2k ns)
  subst hns
  refine ⟨.ref (s.heap.objs.size + 1),_,I.laid (t':=s.toks) (fun b u e=>sortedAll_old e) (Nat.le_succ _) (show ObjOk X.prog X.w _ _ _ (.lst ((srtI ns).map V.int)) from ⟨?_,out.toList,e,Z3v a1,?_⟩),rfl,q _ (I.hok.fresh (Nat.le_succ _))⟩
  . have:=a2.length_eq
    rw [List.length_map,this]
    rw [List.length_map] at hz
    exact hz
  . rw [Array.toArray_toList]
    exact he
theorem Z5X:bootBuiltins "sorted" = some (.builtin "sorted"):=by decide +kernel
theorem Zat {p:Pos} (hg:Gl X "sorted") (hm:X.mg "sorted" = none) (ha:QE X m1 rs1 a fa) (he:starEach [a] X.env=(false,eval a X.env) :: starEach [] X.env:=by rfl) (hpl:(backTo pos (starEach [] X.env)).any (·.1)=false:=by rfl) :
    QE X m rs (.Call (.Name "sorted" p) [a] [] pos) (fB1 Z75 (Z02 fa fNil)) :=
  Z4r Z7U hg hm Z5X (Z01 ha Z07 he) (fun ds d vs H fp Q e r q=>by
    unfold Z75 at e
    split at e
    . rename_i ds'
      cases hq:Z5b ds' with
      | none=>rw [hq] at e; cases e
      | some ns =>
        rw [hq] at e
        simp only at e
        split at e
        . rename_i h64
          cases e
          obtain ⟨v,rfl,r1⟩:=Z4o r
          obtain ⟨p,ws,fp',rfl,hsq,hr,hsub⟩:=Z0N r1
          rw [Z5G hq hr] at hsq
          refine ⟨p,ns,rfl,hsq,h64,fun l hl=>?_⟩
          exact q _ _ [l] (Z0O hl) (Z4v hl (Z3B (srtI ns))) (fun b hb=>by simp at hb; rw [hb]; exact hl) (by simp)
        . cases e
    . cases e) (he:=he) (hpl:=hpl)
end
section
variable {X:Cx} {m m' m1 m2:Bool} {rs rs' rs1 rs2:List Nat} {elt iter:Expr} {ifs:List Expr} {scope:Scope} {pos px:Pos} {x:Str} {fr:List Nat} {src:En -> Option (List D)} {fc:En -> Option Bool} {fe:En -> Option D}
variable {i:Nat} {pos':Pos}
end
section
variable {X:Cx} {m m' m1 m2:Bool} {rs rs' rs1 rs2:List Nat} {e:Expr} {f:En -> Option D} {pos p pos':Pos} {i:Nat} {x:Str}
end
section
variable {X:Cx} {m m1:Bool} {rs rs1:List Nat} {a:Expr} {fa:En -> Option D}
end
section
variable {X:Cx}
variable {m m1:Bool} {rs rs1:List Nat} {a:Expr} {fs:En -> Option (List D)}
end
section
variable {X:Cx} {pins:List (Addr × Obj)} {σ:L2.St} {H:Hp} {s:Shared}
end
section
variable {X:Cx} {m m' m1 m2:Bool} {rs rs' rs1 rs2:List Nat} {e a b c:Expr} {fa fb:En -> Option D} {pos:Pos}
end
section
variable {X:Cx} {m1 m2:Bool} {rs1 rs2:List Nat} {e k:Expr} {f fk:En -> Option D} {pos p p2 p3:Pos} {i:Nat} {x:Str}
end
section
variable {X:Cx} {m1 m2 m3:Bool} {rs1 rs2 rs3:List Nat} {e k l:Expr} {f fk fl:En -> Option D} {pos p p3 spos:Pos} {i:Nat} {x:Str}
end
section
variable {X:Cx} {m m1 m2 m3:Bool} {rs rs1 rs2 rs3:List Nat} {a b c:Expr} {fa fb fc:En -> Option D} {pos:Pos} {op op':CmpOp} {p p':Int -> Int -> Bool}
end
end PD
namespace L2
open PySem PySem.Spec PyProof.Rows
noncomputable def Itz (K:Frag) (a b:Addr):It :=
  ⟨fun i H => ∃ xs ys x y, SqL K H a xs /\ SqL K H b ys /\ xs[i]? = some x /\ ys[i]? = some y,
   fun i H v H'=>∃ p x y,H p=none /\ v=.ref p /\ (∀ xs,SqL K H a xs -> xs[i]? = some x) /\ (∀ ys,SqL K H b ys -> ys[i]? = some y) /\ H'=upd H p (.tup [x,y]),
   fun i H=>∃ xs ys,SqL K H a xs /\ SqL K H b ys /\ (xs.length <= i \/ ys.length <= i)⟩
theorem ZbN {P:Program} {w:World} {K:Frag} {elts:List Expr} {k1:Nat} {pos:Pos} (a b z TI TO i1 i2:Addr) (D:ZipApart z TI TO i1 i2 a b) :
    Turn P w K (.Tuple elts k1 pos) (Itz K a b) [z,TI,TO,i1,i2] z (fun i h=>IsZip h z TI TO .none /\ IsPair h TI (.ref i1) (.ref i2) /\ (∃ u v,IsPair h TO u v) /\ h.IsListIter i1 a i /\ h.IsListIter i2 b i) where
  mem:=by simp
  obj:=fun i h st c hc=>by
    obtain ⟨hz,hT,⟨u,v,hO⟩,h1,h2⟩:=st
    simp only [List.mem_cons,List.not_mem_nil,or_false] at hc
    rcases hc with hc | hc | hc | hc | hc
    . rw [hc]; exact ⟨_,hz,fun v q=>by cases q⟩
    . rw [hc]; exact ⟨_,hT,fun v q=>by cases q⟩
    . rw [hc]; exact ⟨_,hO,fun v q=>by cases q⟩
    . rw [hc]; obtain ⟨o,e,c,d⟩:=h1; exact ⟨o,e,fun v q=>by rw [d] at q; cases q⟩
    . rw [hc]; obtain ⟨o,e,c,d⟩:=h2; exact ⟨o,e,fun v q=>by rw [d] at q; cases q⟩
  keep:=fun i h h' ⟨hz,hT,⟨u,v,hO⟩,h1,h2⟩ k=>⟨k z (by simp) _ hz,k TI (by simp) _ hT,⟨u,v,k TO (by simp) _ hO⟩,h1.at fun o q=>k i1 (by simp) o q,h2.at fun o q=>k i2 (by simp) o q⟩
  item:=by
    intro X hP hw hK hc i pins s σ H E I hf st hg
    subst hP hw hK
    obtain ⟨xs,ys,x,y,hqa,hqb,hx,hy⟩:=hg
    obtain ⟨its,rv,p,hsz⟩:=I.list hqa
    obtain ⟨its2,rv2,p2,hsz2⟩:=I.list hqb
    obtain ⟨u,hu,ru⟩:=rv.get hx
    obtain ⟨u2,hu2,ru2⟩:=rv2.get hy
    obtain ⟨hz,hT,⟨ua,va,hO⟩,h1,h2⟩:=st
    have fz:=hf z (by simp)
    have fO:=hf TO (by simp)
    have f1:=hf i1 (by simp)
    have f2:=hf i2 (by simp)
    refine wpAny_pyNext_zip_item D hz hT hO h1 h2 p.isList p2.isList (x:=u) (y:=u2) (by simpa using hu) (by simpa using hu2) fun h' a1 a2 a3 a4 a5 a6 hk=>?_
    refine ⟨_,rfl,wpAny_letOwnedTupleGo_zip (s:={ s with heap:=h' }) a1 fun h'' hz'' hs''=>?_⟩
    have hfr:H s.heap.objs.size=none:=I.fresh
    have lt:∀ b o,s.heap.get? b=some o -> b ≠ s.heap.objs.size:=fun b o q=>Nat.ne_of_lt (Heap.lt_size q)
    have kp:∀ b o,b ≠ z -> b ≠ TO -> b ≠ i1 -> b ≠ i2 -> s.heap.get? b=some o -> h''.get? b=some o:=fun b o c1 c2 c3 c4 q=>(hs''.2 b c1).trans (hk b o c1 c2 c3 c4 q)
    have hzz:z ≠ s.heap.objs.size:=lt _ _ hz
    have nch:∀ b u,H b=some u -> b ≠ z /\ b ≠ TO /\ b ≠ i1 /\ b ≠ i2:=fun b u q=>⟨fun w=>(by rw [w,fz.1] at q; cases q),fun w=>(by rw [w,fO.1] at q; cases q),fun w=>(by rw [w,f1.1] at q; cases q),fun w=>(by rw [w,f2.1] at q; cases q)⟩
    have hin:∀ c,c ∉ [z,TO,i1,i2] -> c ≠ z /\ c ≠ TO /\ c ≠ i1 /\ c ≠ i2:=fun c hc=>by simpa using hc
    refine ⟨.ref s.heap.objs.size,upd H s.heap.objs.size (.tup [x,y]),?_,rfl,⟨_,x,y,hfr,rfl,fun zs hzs=>by rw [I.list_inj hzs hqa]; exact hx,fun zs hzs=>by rw [I.list_inj hzs hqb]; exact hy,rfl⟩,
      ⟨hz'',(hs''.2 _ D.TIz).trans (hk _ _ D.TIz D.TITO D.TIi1 D.TIi2 hT),⟨_,_,(hs''.2 _ D.TOz).trans a2⟩,a3.at fun o q=>(hs''.2 i1 D.i1z).trans q,a4.at fun o q=>(hs''.2 i2 D.i2z).trans q⟩,fun c hc=>?_⟩
    . refine Inv.step (s:=s) (h':=h'') (t':=s.toks) (H':=upd H s.heap.objs.size (.tup [x,y])) (g':=s.gens) (d':=s.drawn) (ch:=[z,TO,i1,i2]) I (fun c hc=>?_)
        (fun c o _ _ hc q _=>let ⟨c1,c2,c3,c4⟩:=hin c hc; kp c o c1 c2 c3 c4 q) (fun c o _ _ hc q _=>let ⟨c1,c2,c3,c4⟩:=hin c hc; ⟨o.slots,kp c o c1 c2 c3 c4 q⟩)
        (fun c o _ q n=>by rw [Z0u (lt c o q)]; exact n) (fun c o hc q=>let ⟨c1,c2,c3,c4⟩:=hin c hc; ⟨o,kp c o c1 c2 c3 c4 q⟩)
        (fun c ys q=>by rw [Z0u (Z0s q hfr)]; exact q) (fun c o u q=>by rw [Z0u (Z0s q hfr)]; exact q) (fun c ps q=>⟨#[],by rw [Z0u (Z0s q hfr),q]; simp⟩) (fun m hm=>?_) (fun c u q=>?_) I.bare
      . simp only [List.mem_cons,List.not_mem_nil,or_false] at hc
        rcases hc with hc | hc | hc | hc
        . rw [hc]; exact ⟨fz.2.2.2.1,fz.2.1,fz.2.2.2.2.1,fz.2.2.2.2.2⟩
        . rw [hc]; exact ⟨fO.2.2.2.1,fO.2.1,fO.2.2.2.2.1,fO.2.2.2.2.2⟩
        . rw [hc]; exact ⟨f1.2.2.2.1,f1.2.1,f1.2.2.2.2.1,f1.2.2.2.2.2⟩
        . rw [hc]; exact ⟨f2.2.2.2.1,f2.2.1,f2.2.2.2.2.1,f2.2.2.2.2.2⟩
      . obtain ⟨o,es,ep,ho,r⟩:=hm
        exact ⟨o,es,ep,kp _ o (Ne.symm fz.2.1) (Ne.symm fO.2.1) (Ne.symm f1.2.1) (Ne.symm f2.2.1) ho,r⟩
      . by_cases hb:c=s.heap.objs.size
        . subst hb
          rw [Z0A] at q; cases q
          refine ⟨by show 2 <= sizeLine; decide,[u,u2],.cons ru (.cons ru2 .nil),_,(hs''.2 _ (Ne.symm hzz)).trans a5,rfl,_,rfl⟩
        . rw [Z0u hb] at q
          refine (I.hok c u q).stay (fun d v hc z=>?_) (fun c z=>by rw [Z0u (Z0s z hfr)]; exact z) fun c ys z=>by rw [Z0u (Z0s z hfr)]; exact z
          rcases hc with y | y
          . rw [y] at z ⊢; obtain ⟨c1,c2,c3,c4⟩:=nch c u q; exact kp _ _ c1 c2 c3 c4 z
          . obtain ⟨c1,c2,c3,c4⟩:=nch d _ y; exact kp _ _ c1 c2 c3 c4 z
    . have hb':c < s.heap.objs.size:=by
        simp only [List.mem_cons,List.not_mem_nil,or_false] at hc
        rcases hc with hc | hc | hc | hc | hc
        . rw [hc]; exact Heap.lt_size hz
        . rw [hc]; exact Heap.lt_size hT
        . rw [hc]; exact Heap.lt_size hO
        . rw [hc]; obtain ⟨o,q,_⟩:=h1; exact Heap.lt_size q
        . rw [hc]; obtain ⟨o,q,_⟩:=h2; exact Heap.lt_size q
      rw [Z0u (Nat.ne_of_lt hb')]
      exact (hf c hc).1
  done:=by
    intro X hP hw hK hc i pins s σ H E I hf st hg
    subst hP hw hK
    obtain ⟨xs,ys,hqa,hqb,hx⟩:=hg
    obtain ⟨its,rv,p,hsz⟩:=I.list hqa
    obtain ⟨its2,rv2,p2,hsz2⟩:=I.list hqb
    obtain ⟨hz,hT,⟨ua,va,hO⟩,h1,h2⟩:=st
    have hl:=rv.length
    have hl2:=rv2.length
    have fz:=hf z (by simp)
    have fO:=hf TO (by simp)
    have f1:=hf i1 (by simp)
    have f2:=hf i2 (by simp)
    have hend:its.toArray[i]? = none \/ its2.toArray[i]? = none:=by
      rcases hx with z | z
      . left; simp; omega
      . right; simp; omega
    have hin:∀ c,c ∉ [z,TO,i1,i2] -> c ≠ z /\ c ≠ TO /\ c ≠ i1 /\ c ≠ i2:=fun c hc=>by simpa using hc
    have nch:∀ b u,H b=some u -> b ≠ z /\ b ≠ TO /\ b ≠ i1 /\ b ≠ i2:=fun b u q=>⟨fun w=>(by rw [w,fz.1] at q; cases q),fun w=>(by rw [w,fO.1] at q; cases q),fun w=>(by rw [w,f1.1] at q; cases q),fun w=>(by rw [w,f2.1] at q; cases q)⟩
    refine wpAny_pyNext_zip_end (I.ok.hd hc) D hz hT hO h1 h2 p.isList p2.isList hend fun h' hk=>⟨rfl,?_⟩
    refine Inv.step (s:=s) (h':=h') (t':=s.toks) (H':=H) (g':=s.gens) (d':=s.drawn) (ch:=[z,TO,i1,i2]) I (fun c hc=>?_)
      (fun c o _ _ hc q _=>let ⟨c1,c2,c3,c4⟩:=hin c hc; hk c o c1 c2 c3 c4 q) (fun c o _ _ hc q _=>let ⟨c1,c2,c3,c4⟩:=hin c hc; ⟨o.slots,hk c o c1 c2 c3 c4 q⟩)
      (fun c o _ q n=>n) (fun c o hc q=>let ⟨c1,c2,c3,c4⟩:=hin c hc; ⟨o,hk c o c1 c2 c3 c4 q⟩)
      (fun c ys q=>q) (fun c o u q=>q) (fun c ps q=>⟨#[],by rw [q]; simp⟩) (fun m hm=>?_) (fun c u q=>?_) I.bare
    . simp only [List.mem_cons,List.not_mem_nil,or_false] at hc
      rcases hc with hc | hc | hc | hc
      . rw [hc]; exact ⟨fz.2.2.2.1,fz.2.1,fz.2.2.2.2.1,fz.2.2.2.2.2⟩
      . rw [hc]; exact ⟨fO.2.2.2.1,fO.2.1,fO.2.2.2.2.1,fO.2.2.2.2.2⟩
      . rw [hc]; exact ⟨f1.2.2.2.1,f1.2.1,f1.2.2.2.2.1,f1.2.2.2.2.2⟩
      . rw [hc]; exact ⟨f2.2.2.2.1,f2.2.1,f2.2.2.2.2.1,f2.2.2.2.2.2⟩
    . obtain ⟨o,es,ep,ho,r⟩:=hm
      exact ⟨o,es,ep,hk _ o (Ne.symm fz.2.1) (Ne.symm fO.2.1) (Ne.symm f1.2.1) (Ne.symm f2.2.1) ho,r⟩
    . refine (I.hok c u q).stay (fun d v hc z=>?_) (fun c z=>z) fun c ys z=>z
      rcases hc with y | y
      . rw [y] at z ⊢; obtain ⟨c1,c2,c3,c4⟩:=nch c u q; exact hk _ _ c1 c2 c3 c4 z
      . obtain ⟨c1,c2,c3,c4⟩:=nch d _ y; exact hk _ _ c1 c2 c3 c4 z
  self:=fun _ _ _ _ _ st h=>wpAny_pyIter_zip st.1 h
theorem ZcF:bootBuiltins "zip" = some (.type "zip"):=by decide +kernel
section
variable {X:Cx} {elts:List Expr} {k1:Nat} {tpos:Pos}
noncomputable def iZip (K:Frag) (ta:TA):TI:=fun σ H R=>ta σ H fun vs H1=>∃ a b,vs=[.ref a,.ref b] /\ (∃ xs,SqL K H1 a xs) /\ (∃ ys,SqL K H1 b ys) /\ R (Itz K a b) H1
theorem ZeV {l l2:Expr} {ta:TA} {p pos:Pos} (hg:Gl X "zip") (hm:X.mg "zip" = none) (ha:PA X [l,l2] ta) (hs:starEach [l,l2] X.env=[(false,eval l X.env),(false,eval l2 X.env)]:=by rfl) (hs2:starEach [l2] X.env=[(false,eval l2 X.env)]:=by rfl) :
    PI X (.Tuple elts k1 tpos) (.Call (.Name "zip" p) [l,l2] [] pos) (iZip X.K ta):=by
  intro pins s σ H R I h
  refine Call_ (Z6k I hg hm ZcF (PyProof.Rows.callWith_type1 (thn (ha pos pins s σ H _ I h) fun us s1 ⟨vs,H1,I1,r1,q1⟩=>?_) (by rw [hs,hs2]) (by rw [hs2]; rfl)))
  obtain ⟨a,b,rfl,⟨xs,hqa⟩,⟨ys,hqb⟩,q⟩:=q1
  cases r1 with
  | cons r rr =>
    cases rr with
    | cons r' rr =>
      cases rr
      cases r
      cases r'
      obtain ⟨its,rv,pl,hz⟩:=I1.list hqa
      obtain ⟨its2,rv2,pl2,hz2⟩:=I1.list hqb
      have la:a < s1.heap.objs.size:=by obtain ⟨o,e,_⟩:=pl.isList; exact Heap.lt_size e
      have lb:b < s1.heap.objs.size:=by obtain ⟨o,e,_⟩:=pl2.isList; exact Heap.lt_size e
      refine call_zip_2 pl.isList pl2.isList fun h' hzp hTI hTO hi1 hi2 hsz hk=>?_
      refine wpAny_pyIter_zip (s:={ s1 with heap:=h' }) hzp ?_
      have I2:Inv X pins σ H1 { s1 with heap:=h' }:=I1.kept (t':=s1.toks) hk
      refine ⟨s1.heap.objs.size + 4,[s1.heap.objs.size + 4,s1.heap.objs.size + 2,s1.heap.objs.size + 3,s1.heap.objs.size,s1.heap.objs.size + 1],_,_,H1,rfl,I2,ZbN a b _ _ _ _ _ (zipApart_new la lb),⟨hzp,hTI,⟨_,_,hTO⟩,hi1,hi2⟩,fun c hc=>?_,q⟩
      have hb':s1.heap.objs.size <= c:=by
        simp only [List.mem_cons,List.not_mem_nil,or_false] at hc
        rcases hc with hc | hc | hc | hc | hc <;> (rw [hc]; first | exact Nat.le_refl _ | exact Nat.le_add_right _ _)
      exact I1.fpOk hb' (I1.hok.fresh hb')
end
theorem Z4p {i j:Int}:Builtin.Range.rangeSize i j (-1)=if j < i then i - j else 0:=by
  unfold Builtin.Range.rangeSize
  split <;> split <;> simp_all <;> omega
theorem Zad {i j:Int} (h1:-(2 ^ 62) <= i) (h2:i < 2 ^ 62) (h3:-(2 ^ 62) <= j) (h4:j < 2 ^ 62):Builtin.Range.small i j (-1)=true:=by
  have e:=@Z4p i j
  unfold Builtin.Range.small
  rw [e]
  clear e
  simp only [Builtin.Range.rangeFitsLong,Bool.and_eq_true,decide_eq_true_eq]
  split <;> (refine ⟨?_,?_⟩ <;> simp <;> omega)
end L2
namespace PD
open PySem PySem.Spec PyProof.Rows L2
section
variable {X:Cx} {tg:Expr}
noncomputable def Zg2 (ta:TA):TI:=fun σ H R=>ta σ H fun vs H1=>∃ i j:Int,vs=[.int i,.int j,.int (-1)] /\ (-(2 ^ 62) <= i /\ i < 2 ^ 62 /\ -(2 ^ 62) <= j /\ j < 2 ^ 62) /\ R (Itd i (i - j).toNat) H1
theorem Zej {pins:List (Addr × Obj)} {σ:L2.St} {H:Hp} {s:Shared} {R:It -> Hp -> Prop} {E:Value -> Shared -> Prop} {lo hi:Int} {t u v:Tok} {tk:Nat} (I:Inv X pins σ H s) (h1:-(2 ^ 62) <= lo) (h2:lo < 2 ^ 62) (h3:-(2 ^ 62) <= hi) (h4:hi < 2 ^ 62)
    (q:R (Itd lo (lo - hi).toNat) H):wpAny (model X.prog X.w) X.A (pyIter (.ref s.heap.objs.size)) (PIE X pins σ tg R) E { s with heap:=s.heap.push { cls:=.type "range",data:=.fields #[.int lo t,.int hi u,.int (-1) v] },toks:=tk }:=by
  refine wpAny_pyIter_range (IsRange.new ..) (Zad h1 h2 h3 h4) ?_
  have I1:Inv X pins σ H { s with heap:=s.heap.push { cls:=.type "range",data:=.fields #[.int lo t,.int hi u,.int (-1) v] },toks:=tk }:=I.kept fun b o e=>Heap.get?_push_of_some _ e
  refine ⟨(s.heap.push { cls:=.type "range",data:=.fields #[.int lo t,.int hi u,.int (-1) v] }).objs.size,[(s.heap.push { cls:=.type "range",data:=.fields #[.int lo t,.int hi u,.int (-1) v] }).objs.size],_,_,H,rfl,
    I1.kept (t':=tk) fun b o e=>Heap.get?_push_of_some _ e,Za2 _ lo (lo - hi).toNat,?_,fun b hb=>?_,q⟩
  . have e1:lo + ((0:Nat):Int) * (-1)=lo:=by simp
    have e2:(((lo - hi).toNat:Nat):Int) - ((0:Nat):Int)=Builtin.Range.rangeSize lo hi (-1):=by rw [Z4p]; split <;> omega
    show IsRangeIter _ _ (lo + ((0:Nat):Int) * (-1)) ((((lo - hi).toNat:Nat):Int) - ((0:Nat):Int)) (-1)
    rw [e1,e2]
    exact Heap.get?_push_size _ rfl
  . have e:b=(s.heap.push { cls:=.type "range",data:=.fields #[.int lo t,.int hi u,.int (-1) v] }).objs.size:=by simpa using hb
    subst e
    exact I1.fpOk (Nat.le_refl _) (I1.hok.fresh (Nat.le_refl _))
theorem ZaC {a b c:Expr} {ta:TA} {p pos:Pos} (hg:Gl X "range") (hm:X.mg "range" = none) (ha:PA X [a,b,c] ta) (hs:starEach [a,b,c] X.env=(false,eval a X.env) :: starEach [b,c] X.env:=by rfl) (hs2:(backTo pos (starEach [b,c] X.env)).any (·.1)=false:=by rfl) :
    PI X tg (.Call (.Name "range" p) [a,b,c] [] pos) (Zg2 ta):=by
  intro pins s σ H R I h
  refine Call_ (Z6k I hg hm boot_range (PyProof.Rows.callWith_type1 (thn (ha pos pins s σ H _ I h) fun us s1 ⟨vs,H1,I1,r1,q1⟩=>?_) hs hs2))
  obtain ⟨i,j,e,⟨q1,q2,q3,q4⟩,q⟩:=q1
  subst e
  cases r1 with
  | cons r rr =>
    cases rr with
    | cons r' rr =>
      cases rr with
      | cons r'' rr =>
        cases rr
        obtain ⟨t,rfl⟩:=r
        obtain ⟨t',rfl⟩:=r'
        obtain ⟨t'',rfl⟩:=r''
        exact call_range_3 (by decide) (Zej I1 q1 q2 q3 q4 q) (Or.inl (PyProof.noPylong_small (by omega)))
end
noncomputable def ZbK:List D -> Option (List D)
  | [.int i,.int j,.int k]=>if (-(2 ^ 62) <= i /\ i < 2 ^ 62 /\ -(2 ^ 62) <= j /\ j < 2 ^ 62) /\ k = -1 then some ((List.range (i - j).toNat).map fun (k:Nat)=>.int (i - (k:Int))) else none
  | _=>none
section
variable {X:Cx} {m m1:Bool} {rs rs1:List Nat} {a b c:Expr} {fa:En -> Option D} {fs:En -> Option (List D)} {pos:Pos}
theorem ZfI {K:Frag} {H:Hp} {d d' d'':D} {vs:List V} {fp:List Addr} (h:Reps K m H [d,d',d''] vs fp):∃ v v' v'' f f' f'',vs=[v,v',v''] /\ Rep K m H d v f /\ Rep K m H d' v' f' /\ Rep K m H d'' v'' f'' /\ fp=f ++ (f' ++ f''):=by
  simp only [Reps] at h
  obtain ⟨v,r,f1,f2,rfl,rfl,h1,v',r',f3,f4,rfl,rfl,h2,v'',r'',f5,f6,rfl,rfl,h3,rfl,rfl⟩:=h
  exact ⟨v,v',v'',f1,f3,f5,rfl,h1,h2,h3,by simp⟩
theorem Zar {tg:Expr} {p:Pos} (hg:Gl X "range") (hm:X.mg "range" = none) (ha:QA X m1 rs1 [a,b,c] fs) (hs:starEach [a,b,c] X.env=(false,eval a X.env) :: starEach [b,c] X.env:=by rfl) (hs2:(backTo pos (starEach [b,c] X.env)).any (·.1)=false:=by rfl) :
    QI X tg rs (.Call (.Name "range" p) [a,b,c] [] pos) (sB1 ZbK fs) :=
  .mk (ZaC hg hm ha hs hs2) fun σ H R ⟨env,F,ds,ok,e,q⟩=>by
    unfold sB1 at e
    cases h1:fs env with
    | none=>simp only [h1] at e; cases e
    | some xs =>
      simp only [h1,Option.bind_some] at e
      unfold ZbK at e
      split at e
      . rename_i i j k
        split at e
        . rename_i hj
          cases e
          refine ⟨env,F,_,ok,h1,fun vs H' fp s r c=>?_⟩
          obtain ⟨v,v',v'',f,f',f'',rfl,r1,r2,r3,rfl⟩:=ZfI r
          rw [Z0B r1,Z0B r2,Z0B r3,hj.2]
          exact ⟨i,j,rfl,hj.1,q _ H' [] s (Z9M _ _) (fun b hb=>(by cases hb)) .nil⟩
        . cases e
      . cases e
noncomputable def zipD:List D -> List D -> List D
  | x :: xs,y :: ys=>.tup [x,y] :: zipD xs ys
  | _,_=>[]
theorem Z8C:∀ (xs ys:List D) (i:Nat),(zipD xs ys)[i]? = match xs[i]?,ys[i]? with | some x,some y=>some (.tup [x,y]) | _,_=>none
  | [],ys,i=>by simp [zipD]
  | x :: xs,[],i=>by
    simp only [zipD,List.getElem?_nil]
    split <;> simp_all
  | x :: xs,y :: ys,0=>by simp [zipD]
  | x :: xs,y :: ys,i + 1=>by simp only [zipD,List.getElem?_cons_succ]; exact Z8C xs ys i
theorem Z8B:∀ (xs ys:List D),(zipD xs ys).length=min xs.length ys.length
  | [],ys=>by simp [zipD]
  | x :: xs,[]=>by simp [zipD]
  | x :: xs,y :: ys=>by simp only [zipD,List.length_cons,Z8B xs ys]; omega
theorem Zb8 {K:Frag} {H0:Hp} {xs ys:List D} {a b:Addr} {f1 f2:List Addr} (r1:Rep K false H0 (.lst xs) (.ref a) f1) (r2:Rep K false H0 (.lst ys) (.ref b) f2):Z8A K (Itz K a b) H0 (zipD xs ys) (f1 ++ f2):=fun H k i=>by
  have q1:=Rep.keep _ _ _ (k.sub fun b hb=>List.mem_append_left _ hb) r1
  have q2:=Rep.keep _ _ _ (k.sub fun b hb=>List.mem_append_right _ hb) r2
  obtain ⟨p,vs,fp',e,hsq,hr,hsub⟩:=Z0N q1
  cases e
  obtain ⟨p',vs',fp'',e,hsq',hr',hsub'⟩:=Z0N q2
  cases e
  refine ⟨fun d hd=>?_,fun hl=>⟨vs,vs',hsq,hsq',by rw [hr.length,hr'.length]; rw [Z8B] at hl; omega⟩⟩
  rw [Z8C] at hd
  split at hd
  . rename_i x y hx hy
    cases hd
    obtain ⟨v,f,h1,h2,h3,_⟩:=hr.get hx
    obtain ⟨v',f',h1',h2',h3',_⟩:=hr'.get hy
    refine ⟨⟨vs,vs',v,v',hsq,hsq',h1,h1'⟩,fun x H' y=>?_⟩
    obtain ⟨q,w,w',hq,rfl,ya,yb,rfl⟩:=y
    have e1:=ya vs hsq
    rw [h1] at e1
    cases e1
    have e2:=yb vs' hsq'
    rw [h1'] at e2
    cases e2
    refine ⟨Z0O hq,f ++ f',Z6h hq ?_,fun c hc=>?_⟩
    . simp only [Reps]
      exact ⟨v,[v'],f,f',rfl,rfl,h2,v',[],f',[],rfl,by simp,h2',rfl,rfl⟩
    . rcases List.mem_append.mp hc with z | z
      . exact List.mem_append_left _ (hsub c (h3 c z))
      . exact List.mem_append_right _ (hsub' c (h3' c z))
  . cases hd
noncomputable def FZip:List D -> Option (List D)
  | [.lst xs,.lst ys]=>some (zipD xs ys)
  | _=>none
theorem ZeN {elts:List Expr} {k1:Nat} {tpos p:Pos} (hg:Gl X "zip") (hm:X.mg "zip" = none) (ha:QA X m1 rs [a,b] fs) (hs:starEach [a,b] X.env=[(false,eval a X.env),(false,eval b X.env)]:=by rfl) (hs2:starEach [b] X.env=[(false,eval b X.env)]:=by rfl) :
    QI X (.Tuple elts k1 tpos) rs (.Call (.Name "zip" p) [a,b] [] pos) (sB1 FZip fs) :=
  .mk (ZeV hg hm ha hs hs2) fun σ H R ⟨env,F,ds,ok,e,q⟩=>by
    unfold sB1 at e
    cases h1:fs env with
    | none=>simp only [h1] at e; cases e
    | some xs =>
      simp only [h1,Option.bind_some] at e
      unfold FZip at e
      split at e
      . cases e
        refine ⟨env,F,_,ok,h1,fun vs H' fp s r c=>?_⟩
        obtain ⟨v,v',f,f',rfl,r1,r2,rfl⟩:=ZeH r
        have r1':=Rep.weak _ _ _ r1
        have r2':=Rep.weak _ _ _ r2
        obtain ⟨p,ws,fp',rfl,hsq,hr,hsub⟩:=Z0N r1
        obtain ⟨p',ws',fp'',rfl,hsq',hr',hsub'⟩:=Z0N r2
        refine ⟨p,p',rfl,⟨ws,hsq⟩,⟨ws',hsq'⟩,q _ H' (f ++ f') s (Zb8 r1' r2') (fun c hc=>?_) ⟨c.1,fun z=>(by cases z)⟩⟩
        rcases List.mem_append.mp hc with z | z
        . exact Rep.dom _ _ _ r1' c z
        . exact Rep.dom _ _ _ r2' c z
      . cases e
end
noncomputable def keyOf:D -> Option Key
  | .int i=>some (.inl i)
  | .str x=>some (.inr x)
  | _=>none
theorem Z4x {K:Frag} {H:Hp} {st:Bool} {d:D} {k:Key} {v:V} {fp:List Addr} (e:keyOf d=some k) (r:Rep K st H d v fp):v=kV k:=by
  cases d with
  | int i=>cases e; exact Z0B r
  | str x=>cases e; exact Z21 r
  | _=>cases e
section
variable {κ:Type} [DecidableEq κ]
noncomputable def Z3i {α:Type}:List κ -> List α -> κ -> Option α
  | k' :: ks,d :: ds,k=>if k'=k then some d else Z3i ks ds k
  | _,_,_=>none
noncomputable def memK (k:κ) (ks:List κ):Bool:=decide (k ∈ ks)
theorem memK_iff {k:κ} {ks:List κ}:memK k ks=true ↔ k ∈ ks:=by unfold memK; simp
noncomputable def putN (ks:List κ) (k:κ):List κ:=if k ∈ ks then ks else ks ++ [k]
noncomputable def putZ {α:Type} (ks:List κ) (xs:List α) (k:κ) (x:α):List α:=if k ∈ ks then List.zipWith (fun k' y=>if k'=k then x else y) ks xs else xs ++ [x]
theorem Z8D {ks:List κ} {vs:List V} {k:κ}:valV (ks.zip vs) k=Z3i ks vs k:=by
  induction ks generalizing vs with
  | nil=>simp [Z3i,valV]
  | cons k' ks ih =>
    cases vs with
    | nil=>simp [Z3i,valV]
    | cons v vs =>
      rw [List.zip_cons_cons]
      unfold Z3i
      by_cases h:k'=k
      . rw [if_pos h,Z5c (by exact h)]
      . rw [if_neg h,Z5d (by exact h)]
        exact ih
theorem Zep {ks:List κ} {vs:List V} {k:κ} (hl:ks.length=vs.length):((ks.zip vs).any fun kv=>decide (kv.1=k))=decide (k ∈ ks):=by
  induction ks generalizing vs with
  | nil=>simp
  | cons k' ks ih =>
    cases vs with
    | nil=>cases hl
    | cons v vs =>
      rw [List.zip_cons_cons,List.any_cons,ih (by simpa using hl)]
      by_cases h:k'=k
      . subst h; simp
      . have h':¬ k=k':=fun z=>h z.symm
        simp [h,h']
theorem Ze5 {ks:List κ} {vs:List V} {k:κ} {v:V}:(ks.zip vs).map (fun kv=>if kv.1=k then (kv.1,v) else kv)=ks.zip (List.zipWith (fun k' y=>if k'=k then v else y) ks vs):=by
  induction ks generalizing vs with
  | nil=>simp
  | cons k' ks ih =>
    cases vs with
    | nil=>simp
    | cons v' vs =>
      simp only [List.zip_cons_cons,List.map_cons,List.zipWith_cons_cons,ih]
      split <;> rfl
theorem Zc4 {ks:List κ} {vs:List V} {k:κ} {v:V} (hl:ks.length=vs.length):putK (ks.zip vs) k v=(putN ks k).zip (putZ ks vs k v):=by
  unfold putK putN putZ
  rw [Zep hl]
  by_cases h:k ∈ ks
  . simp only [h,decide_true,if_true]
    exact Ze5
  . simp only [h,decide_false,Bool.false_eq_true,if_false]
    rw [List.zip_append hl]
    rfl
theorem Zc1 {α:Type} {ks:List κ} {xs:List α} {k:κ} {x:α} (hl:ks.length=xs.length):(putN ks k).length=(putZ ks xs k x).length:=by
  unfold putN putZ
  split
  . simp [hl]
  . simp [hl]
theorem Z7J {K:Frag} {st:Bool} {H:Hp} {k:κ}:∀ {ks:List κ} {ds:List D} {vs:List V} {fp:List Addr} {d:D},Reps K st H ds vs fp -> Z3i ks ds k=some d -> ∃ v f,Z3i ks vs k=some v /\ Rep K st H d v f /\ (∀ b ∈ f,b ∈ fp)
  | [],ds,vs,fp,d,r,e=>by simp [Z3i] at e
  | k' :: ks,[],vs,fp,d,r,e=>by simp [Z3i] at e
  | k' :: ks,x :: ds,vs,fp,d,r,e=>by
    simp only [Reps] at r
    obtain ⟨v,us,f1,f2,rfl,rfl,r1,r2⟩:=r
    unfold Z3i at e ⊢
    by_cases h:k'=k
    . rw [if_pos h] at e ⊢
      cases e
      exact ⟨v,f1,rfl,r1,fun b hb=>List.mem_append_left _ hb⟩
    . rw [if_neg h] at e ⊢
      obtain ⟨v',f,h1,h2,h3⟩:=Z7J r2 e
      exact ⟨v',f,h1,h2,fun b hb=>List.mem_append_right _ (h3 b hb)⟩
theorem Z7K {α:Type} {k:κ}:∀ {ks:List κ} {xs:List α},ks.length=xs.length -> (Z3i ks xs k).isSome=memK k ks
  | [],xs,h=>by simp [Z3i,memK]
  | k' :: ks,[],h=>by cases h
  | k' :: ks,x :: xs,h=>by
    unfold Z3i
    by_cases hk:k'=k
    . subst hk; simp [memK]
    . rw [if_neg hk,Z7K (by simpa using h)]
      have h':¬ k=k':=fun z=>hk z.symm
      simp [memK,h']
theorem Z5k {K:Frag} {st:Bool} {H:Hp} {k:κ} {d:D} {v:V} (rd:Rep K st H d v []):∀ {ks:List κ} {ds:List D} {vs:List V},Reps K st H ds vs [] -> Reps K st H (List.zipWith (fun k' y=>if k'=k then d else y) ks ds) (List.zipWith (fun k' y=>if k'=k then v else y) ks vs) []
  | [],ds,vs,r=>by simp only [List.zipWith_nil_left,Reps]; exact ⟨trivial,trivial⟩
  | k' :: ks,[],vs,r=>by
    simp only [Reps] at r
    obtain ⟨rfl,_⟩:=r
    simp only [List.zipWith_nil_right,Reps]; exact ⟨trivial,trivial⟩
  | k' :: ks,x :: ds,vs,r=>by
    simp only [Reps] at r
    obtain ⟨w,us,f1,f2,rfl,e,r1,r2⟩:=r
    obtain ⟨rfl,rfl⟩:=List.append_eq_nil_iff.mp e.symm
    have ih:=Z5k (k:=k) rd (ks:=ks) r2
    simp only [List.zipWith_cons_cons,Reps]
    refine ⟨_,_,[],[],rfl,rfl,?_,ih⟩
    split
    . exact rd
    . exact r1
theorem Zc0 {K:Frag} {st:Bool} {H:Hp} {k:κ} {d:D} {v:V} {ks:List κ} {ds:List D} {vs:List V} (rd:Rep K st H d v []) (r:Reps K st H ds vs []):Reps K st H (putZ ks ds k d) (putZ ks vs k v) []:=by
  unfold putZ
  split
  . exact Z5k rd r
  . have:=Reps.snoc r rd
    simpa using this
end
section
variable {X:Cx} {m m' m1 m2 m3:Bool} {rs rs' rs1 rs2 rs3:List Nat} {e a b c:Expr} {f fa fb fc:En -> Option D} {pos p pos':Pos} {i:Nat} {x:Str}
theorem ZfY {K:Frag} {H:Hp} {q:Addr} {ks:List Key} {vs:List V} {ds:List D} {fp:List Addr} (hq:H q=none) (hl:ks.length=vs.length) (h:Reps K m H ds vs fp):Rep K m (upd H q (.dK (ks.zip vs))) (.dk ks ds) (.ref q) (q :: fp):=by
  simp only [Rep]
  exact ⟨q,vs,fp,rfl,rfl,Z0A,hl,h.same (Z0O hq)⟩
theorem Z8L {K:Frag} {H:Hp}:Reps K m H [] [] []:=by simp only [Reps]; exact ⟨trivial,trivial⟩
theorem Z8Q:QE X true [] (.Dict [] [] pos) (fC (.dk [] [])):=.mk L2.pe_dnewK fun σ H Q ⟨env,F,d,ok,e,q⟩=>by
  cases e
  intro p hp
  exact q _ _ [p] (Z0O hp) (ZfY (ks:=[]) (vs:=[]) hp rfl Z8L) (Z4D (m:=true) (K:=X.K) (Same.refl H) hp (Z8L (m:=true)) .nil)
noncomputable def fInK (fa fb:En -> Option D):En -> Option Bool:=fun env=>match fa env,fb env with
  | some x,some (.dk ks ds)=>match keyOf x with
    | some k=>some (memK k ks)
    | none=>none
  | _,_=>none
theorem Z7d {K:Frag} {σ:L2.St} {H:Hp} {Q:VK} (neg:Bool) {env:En} {F:Nat -> List Addr} {bb:Bool} (ok:EnvOk K H σ env F) (e:fInK fa fb env=some bb) (q:∀ H',Same H H' -> Q (.bl (if neg then !bb else bb)) H') :
    tD K m1 rs1 fa σ H fun y H1=>tD K m2 rs2 fb σ H1 fun x H2=>∃ a o,x=.ref a /\ DGet H2 a y o /\ Q (.bl (if neg then !o.isSome else o.isSome)) H2:=by
  unfold fInK at e
  split at e
  . rename_i x ks ds h1 h2
    cases hk:keyOf x with
    | none=>rw [hk] at e; cases e
    | some k =>
      rw [hk] at e
      cases e
      refine two ok h1 h2 fun v u H' f1 f2 s r1 r2 _ _=>?_
      rw [Z4x hk r1]
      simp only [Rep] at r2
      obtain ⟨a,vs,fp',rfl,rfl,hs,hl,hr⟩:=r2
      refine ⟨a,_,rfl,DGet.k hs,?_⟩
      rw [Z8D,Z7K hl]
      exact q H' s
  . cases e
theorem ZeK (hu:X.A.units + 1 < cLine) (ha:QE X m1 rs1 a fa) (hb:QE X m2 rs2 b fb) (hm:behindInMarks .In b=false:=by with_unfolding_all rfl):QT X (.Compare a [.In] [b] pos) (fInK fa fb) :=
  .mk (L2.pt_cmp (Zf3 hu ha hb) hm) fun σ H Q ⟨env,F,bb,ok,e,q⟩=>Z7d (Q:=fun v H'=>∃ k,v=.bl k /\ Q k H') false ok e fun H' s=>⟨bb,rfl,q H' s⟩
theorem Zan (hu:X.A.units + 1 < cLine) (ha:QE X m1 rs1 a fa) (hb:QE X m2 rs2 b fb) (hm:behindInMarks .NotIn b=false:=by with_unfolding_all rfl):QT X (.Compare a [.NotIn] [b] pos) (fNot (fInK fa fb)) :=
  .mk (L2.pt_cmp (ZaF hu ha hb) hm) fun σ H Q ⟨env,F,bb,ok,e,q⟩=>by
    unfold fNot at e
    cases h1:fInK fa fb env with
    | none=>rw [h1] at e; cases e
    | some b' =>
      rw [h1] at e
      cases e
      exact Z7d (Q:=fun v H'=>∃ k,v=.bl k /\ Q k H') true ok h1 fun H' s=>⟨_,rfl,q H' s⟩
noncomputable def Z4f (fa fb:En -> Option D):En -> Option D:=fun env=>match fa env,fb env with
  | some (.dk ks ds),some x=>match keyOf x with
    | some k=>match Z3i ks ds k with
      | some d=>if flat d=true then some d else none
      | none=>none
    | none=>none
  | _,_=>none
theorem Z5t (hu:X.A.units + 1 < cLine) (ha:QE X m1 rs1 a fa) (hb:QE X m2 rs2 b fb) (hs:NoSl b:=by intro _ _; rfl):QE X m rs (.Subscript a b pos) (Z4f fa fb) :=
  .mk (L2.pe_dget hu ha hb hs) fun σ H Q ⟨env,F,d,ok,e,q⟩=>by
    unfold Z4f at e
    split at e
    . rename_i ks ds x h1 h2
      cases hk:keyOf x with
      | none=>rw [hk] at e; cases e
      | some k =>
        rw [hk] at e
        simp only at e
        cases hg:Z3i ks ds k with
        | none=>rw [hg] at e; cases e
        | some d' =>
          rw [hg] at e
          simp only at e
          split at e
          . rename_i hf
            cases e
            refine two ok h1 h2 fun v u H' f1 f2 s r1 r2 _ _=>?_
            rw [Z4x hk r2]
            simp only [Rep] at r1
            obtain ⟨a,vs,fp',rfl,rfl,hsx,hl,hr⟩:=r1
            obtain ⟨w,g,g1,g2,g3⟩:=Z7J hr hg
            refine ⟨a,w,rfl,?_,q w H' [] s ((Rep.flat _ _ _ hf g2).2 m) .nil⟩
            have:=DGet.k (k:=k) hsx
            rw [Z8D,g1] at this
            exact this
          . cases e
    . cases e
theorem Z9i {K:Frag} {P H:Hp} {σ:L2.St} {env:En} {F:Nat -> List Addr} {i:Nat} {d0 d1:D} {a:Addr} {o o':HO} {fp' fp2:List Addr} (sm:Same P H) (hl:σ.length=env.length) (h:EnvS K P H σ env F) (ei:env[i]? = some (some (true,d0)))
    (hv:σ[i]? = some (some (.ref a))) (hF:F i=a :: fp') (ha:H a=some o) (nt:∀ xs,o ≠ .tup xs) (nf:∀ x u,o ≠ .frz x u) (new:∀ st,Rep K st (upd H a o') d1 (.ref a) (a :: fp2)) (nd:(a :: fp2).Nodup) (hn:∀ b ∈ fp2,b ∈ fp' \/ (P b=none /\ ∀ j s,env[j]? = some (some s) -> b ∉ F j)) :
    SInv K P (upd H a o') σ (env.set i (some (true,d1))):=by
  have hi:i < env.length:=(List.getElem?_eq_some_iff.mp ei).1
  obtain ⟨o1,o2,o3,o4⟩:=h.own i _ ei
  have ha0:a ∈ F i:=by rw [hF]; exact List.mem_cons_self
  have kp:∀ {fp:List Addr},a ∉ fp -> Kp fp H (upd H a o'):=fun hn=>Kp.upd ha nt nf hn
  refine ⟨fun b o e=>?_,by simp [hl],fset F i (a :: fp2),fun j o d e=>?_,fun j d e=>?_⟩
  . have:b ≠ a:=fun z=>by have:=o2 a ha0; rw [z,this] at e; cases e
    rw [Z0u this]; exact sm _ _ e
  . rw [Z1B hi] at e
    by_cases hj:j=i
    . subst hj
      rw [if_pos rfl] at e
      cases e
      exact ⟨_,hv,by rw [Z0z]; exact new false⟩
    . rw [if_neg hj] at e
      obtain ⟨w,h1,h2⟩:=h.ok j o d e
      exact ⟨w,h1,by rw [Z0o hj]; exact Rep.keep _ _ _ (kp (o4 j _ hj e a ha0)) h2⟩
  . rw [Z1B hi] at e
    by_cases hj:j=i
    . subst hj
      rw [if_pos rfl] at e
      cases e
      refine ⟨by rw [Z0z]; exact nd,fun b hb=>?_,fun w hw=>?_,fun k s hk ek b hb=>?_⟩
      . rw [Z0z] at hb
        rcases List.mem_cons.mp hb with z | z
        . rw [z]; exact o2 a ha0
        . rcases hn b z with y | y
          . exact o2 b (by rw [hF]; exact List.mem_cons_of_mem _ y)
          . exact y.1
      . rw [hv] at hw
        cases hw
        rw [Z0z]; exact new true
      . rw [Z0z] at hb
        rw [Z0o hk]
        rw [Z1B hi,if_neg hk] at ek
        rcases List.mem_cons.mp hb with z | z
        . rw [z]; exact o4 k s hk ek a ha0
        . rcases hn b z with y | y
          . exact o4 k s hk ek b (by rw [hF]; exact List.mem_cons_of_mem _ y)
          . exact y.2 k s ek
    . rw [if_neg hj] at e
      obtain ⟨a1,a2,a3,a4⟩:=h.own j d e
      refine ⟨by rw [Z0o hj]; exact a1,fun b hb=>a2 b (by rw [Z0o hj] at hb; exact hb),fun w hw=>by rw [Z0o hj]; exact Rep.keep _ _ _ (kp (o4 j _ hj e a ha0)) (a3 w hw),fun k s hk ek b hb=>?_⟩
      rw [Z0o hj] at hb
      rw [Z1B hi] at ek
      by_cases hki:k=i
      . subst hki
        rw [Z0z]
        intro z
        rcases List.mem_cons.mp z with z | z
        . exact a4 k _ hk ei b hb (by rw [z]; exact ha0)
        . rcases hn b z with y | y
          . exact a4 k _ hk ei b hb (by rw [hF]; exact List.mem_cons_of_mem _ y)
          . exact y.2 j _ e hb
      . rw [if_neg hki] at ek
        rw [Z0o hki]
        exact a4 k s hk ek b hb
noncomputable def Z49 (i:Nat) (fk fv:En -> Option D):En -> Res:=fun env=>match fv env,env[i]?,fk env with
  | some d,some (some (true,.dk ks ds)),some kd=>match keyOf kd with
    | some k=>if Z1m ds=true /\ flat d=true /\ ks.length < 1000 then .next (env.set i (some (true,.dk (putN ks k) (putZ ks ds k d)))) else .bad
    | none=>.bad
  | _,_,_=>.bad
theorem Z4K {fk fv:En -> Option D} {value key:Expr} (hu:X.A.units + 1 < cLine) (i:Nat) (hk:QE X m2 rs2 key fk) (hv:QE X m1 rs1 value fv) (hN:X.N[i]? = some x:=by rfl) (hvis:Vis X.env.scope x:=by first | exact Or.inl rfl | exact Or.inr (Or.inl rfl) | exact Or.inr (Or.inr rfl)) (hd:(x == ("__debug__" : Str))=false:=by decide) (hcd:(x == ("__classdict__" : Str))=false:=by decide)
    (hs:swapsWith value (some (.Subscript (.Name x p) key pos')) pos.line X.env=pure false:=by rfl) :
    QS X (.Assign [.Subscript (.Name x p) key pos'] value pos) (Z49 i fk fv):=.mk (ZdJ hu (Z4s hN hvis hd hcd) hk hv hs) fun E σ H ⟨P,env,I,q⟩=>by
  obtain ⟨F,hF⟩:=I.ex
  unfold Z49 at q
  split at q
  . rename_i d ks ds kd h1 h2 h3
    cases hkk:keyOf kd with
    | none=>rw [hkk] at q; exact q.elim
    | some k =>
      rw [hkk] at q
      simp only at q
      split at q
      . rename_i hfl
        obtain ⟨w,hv1,_⟩:=hF.ok i true _ h2
        obtain ⟨o1,o2,o3,o4⟩:=hF.own i _ h2
        have r0:=o3 w hv1
        simp only [Rep] at r0
        obtain ⟨a,vs,fp',rfl,hFi,ha,hl,hr⟩:=r0
        obtain ⟨e1,e2⟩:=Reps.flat _ _ _ hfl.1 hr
        subst e1
        refine ⟨env,F,d,hF.ok,h1,fun v H1 fp s r c=>⟨.ref a,hv1,env,F,kd,hF.ok.same s,h3,fun kv H2 fp2 s2 r2 c2=>?_⟩⟩
        obtain ⟨_,rf⟩:=Rep.flat _ _ _ hfl.2.1 r
        rw [Z4x hkk r2]
        have ha':=(s.trans s2) _ _ ha
        have hlk:(ks.zip vs).length < sizeLine:=by
          rw [List.length_zip]
          have:=Z4m (n:=ks.length) (by omega)
          omega
        refine ⟨a,_,rfl,DPut.k ha' hlk,q _ _ ?_⟩
        refine Z9i (fp2:=[]) (fp':=[]) (I.same.trans (s.trans s2)) I.len (hF.grow (s.trans s2)) h2 hv1 hFi ha' (by intro xs z; cases z) (by intro x u z; cases z) (fun st=>?_) (by simp) (fun b hb=>(by cases hb))
        rw [Zc4 hl]
        simp only [Rep]
        refine ⟨a,putZ ks vs k v,[],rfl,rfl,Z0A,Zc1 hl,?_⟩
        refine Reps.keep _ _ _ (Kp.upd (fp:=[]) ha' (by intro xs z; cases z) (by intro x u z; cases z) (by simp)) ?_
        exact Zc0 ((rf st).same s2) ((e2 st).same (s.trans s2))
      . exact q.elim
  . exact q.elim
end
section
variable {prog:Program} {w:World} {A:Around} {E:Value -> Shared -> Prop} {s:Shared} {T:String} {r d:Addr} {n:Nat} {PP:Nat -> Value -> Prop} {OK:Heap -> Prop}
theorem Z8u {Z:List Value -> Shared -> Prop} (S:PySem.W.KdlSrc prog w T r d n PP OK) (h0:A.handled=none) (hS:OK s.heap) (hz:n <= sizeLine)
    (fin:∀ (hp:Heap) (tk:Nat) (vs:Array Value),(∀ c o,s.heap.get? c=some o -> hp.get? c=some o) -> s.heap.objs.size < hp.objs.size -> PySem.ItemsOf PP vs n -> Z vs.toList { s with heap:=hp,toks:=tk }) :
    wpAny (model prog w) A (collect (.ref r)) Z E s:=by
  obtain ⟨l1,l2⟩:=S.there _ hS
  unfold collect; refine wpAny_bind (wpAny_runValue (codeAny_builtin PyProof.Rows.entry_proto_collect' ?_)); rw [Around.under_plainId PySem.F.plain_proto_collect _]
  show wpAny _ A.in1 (newList [] >>= fun nl=>again (.builtin "list.__iadd__" ⟨[nl,.ref r],[]⟩)) _ _ s
  refine wpAny_bind (wpAny_newObj_type (wpAny_pure ⟨plainId_quiet PySem.F.plain_list_iadd _,codeAny_builtin PyProof.Rows.entry_list_iadd' ?_⟩)); rw [Around.under_plainId PySem.F.plain_list_iadd _]
  have hN:(s.heap.push { cls:=.type "list",data:=.seq ([]:List Value).toArray }).get? s.heap.objs.size=some { cls:=.type "list",data:=.seq #[] }:=Heap.get?_push_size _ rfl
  have ext:=PySem.W.kdl_extend (A:=A) (s:={ s with heap:=s.heap.push { cls:=.type "list",data:=.seq ([]:List Value).toArray } })
    (R:=fun (q:Result) (t:Shared)=>q=.ok (.ret (.ref s.heap.objs.size)) /\ ∃ (hp:Heap) (tk:Nat) (vs:Array Value) (k:Nat),t={ s with heap:=hp,toks:=tk } /\ (∀ c o,s.heap.get? c=some o -> hp.get? c=some o) /\
      hp.get? s.heap.objs.size=some { cls:=.type "list",dict:=none,data:=.seq vs k,slots:=#[] } /\ PySem.ItemsOf PP vs n)
    S h0 (S.keep _ _ hS fun c _ o e=>Heap.get?_push_of_some _ e) s.heap.objs.size (Nat.ne_of_gt l1) (Nat.ne_of_gt l2) (.ref s.heap.objs.size) 0 hN
    (fun hp tk vs k kept at' its=>⟨rfl,hp,tk,vs,k,rfl,fun c o e=>kept c o (Nat.ne_of_lt (Heap.lt_size e)) (Heap.get?_push_of_some _ e),at',its⟩) hz
  show wpAny _ A.in1 (Builtin.List.listExtendWith (.ref s.heap.objs.size) (.ref r) (.ref s.heap.objs.size)) _ _ _
  refine wpAny_mono ext (fun out t hq=>?_) fun x t hq=>(by cases hq.1)
  cases out with
  | done fl =>
    obtain ⟨e,hp,tk,vs,k,rfl,kept,at',its⟩:=hq; cases e
    show wpAny _ A (load s.heap.objs.size >>= _) _ _ _; exact wpAny_bind (wpAny_load at' (wpAny_pure (fin hp tk vs kept (Heap.lt_size at') its)))
  | again code =>
    refine ⟨hq.1,codeAny_mono hq.2 fun res t2 hr=>?_⟩
    obtain ⟨rfl,hp,tk,vs,k,rfl,kept,at',its⟩:=hr
    show wpAny _ A (load s.heap.objs.size >>= _) _ _ _; exact wpAny_bind (wpAny_load at' (wpAny_pure (fin hp tk vs kept (Heap.lt_size at') its)))
end
theorem Z6m:∀ {l:List Value} {ns:List Int},l.length=ns.length -> (∀ (j:Nat) (v:Value),l[j]? = some v -> ∃ n t,ns[j]? = some n /\ v=.int n t) -> IntsAre l ns
  | [],[],_,_=>.nil
  | [],_ :: _,h,_=>by cases h
  | _ :: _,[],h,_=>by cases h
  | v :: l,n :: ns,h,hv=>by
    obtain ⟨n',t,e,rfl⟩:=hv 0 v rfl
    cases e
    exact .cons n t (Z6m (by simpa using h) fun j u hu=>hv (j + 1) u hu)
section
variable {X:Cx} {m m1:Bool} {rs rs1:List Nat} {a:Expr} {fa:En -> Option D} {pos:Pos}
theorem Z72 (hc:X.calm=true):CallR X (.builtin "sorted") (fun vs H Q=>∃ (a:Addr) (kvs:List (Key × V)) (ns:List Int),vs=[.ref a] /\ H a=some (.dK kvs) /\ kvs.map (·.1)=ns.map Sum.inl /\ ns.length < 64 /\ ∀ l,H l=none -> Q (.ref l) (upd H l (.lst ((srtI ns).map V.int)))):=fun pins s σ H xs us Q I w h=>by
  obtain ⟨a,kvs,ns,rfl,ha,hk,h64,q⟩:=h
  obtain ⟨u,rfl,r⟩:=Z6z w
  cases (show u=Value.ref a from r)
  obtain ⟨z,hd,vs,rel,dd⟩:=Zek I.hok ha
  obtain ⟨ep,hat⟩:=dd.dictAt
  have hkeys:=rel.keys
  have hlen:=rel.length
  have hn:vs.length=ns.length:=by
    have:=congrArg List.length hk
    simp only [List.length_map] at this
    omega
  have hz:vs.length <= sizeLine:=by omega
  refine Calls.call_function_entry kind_sorted plain_sorted entry_sorted (args_sorted1 _) ?_
  unfold Builtin.«sorted»; refine wpAny_bind (m:=checkCount "sorted" 1 1 _) (wpAny_pure ?_)
  refine wpAny_bind (Z8u (A:=X.A.in1) (PySem.W.kdl_dict (knd:=Z1U X.prog X.w) (kvs:=vs) (ep:=ep) hd) (I.ok.hd hc) hat hz fun hp tk acc kept hlt its=>?_)
  have hI:IntsAre acc.toList ns:=by
    refine Z6m (by rw [Array.length_toList,its.1,hn]) fun j v hv=>?_
    rw [Array.getElem?_toList] at hv
    obtain ⟨k,x,hx,hkv⟩:=its.2 j v hv
    have e1:(vs.map (·.1))[j]? = some k:=by rw [List.getElem?_map,hx]; rfl
    rw [<- hkeys,hk,List.getElem?_map] at e1
    cases hns:ns[j]? with
    | none=>rw [hns] at e1; cases e1
    | some n =>
      rw [hns] at e1
      simp only [Option.map_some,Option.some.injEq] at e1
      subst e1
      rcases Z1h (show Z8m (Sum.inl n) v=true from hkv) with ⟨i,t,e,rfl⟩ | ⟨x,t,e,_⟩
      . cases e
        exact ⟨n,t,rfl,rfl⟩
      . cases e
  have hal:acc.toList.length < 64:=by rw [Array.length_toList,its.1,hn]; exact h64
  refine wpAny_bind (wpAny_newList ?_ (by rw [Array.length_toList,its.1]; exact hz))
  have hoL:(hp.push { cls:=.type "list",data:=.seq acc.toList.toArray }).get? hp.objs.size=some (seqObj "list" acc.toList.toArray 0):=Heap.get?_push_size _ rfl
  refine wpAny_bind (wpAny_holding (wpAny_call_entry slot_list_sort ⟨_,hoL,rfl⟩ entry_list_sort (list_sort_tree hoL hI hal fun out ns' a1 a2 a3=>⟨_,rfl,?_⟩) (args_list_sort _)))
  refine wpAny_pure ⟨_,rfl,?_⟩
  obtain ⟨ee,he⟩:=sortedHeap_at (out:=out) hoL
  have hns:ns'=srtI ns:=Z1X (a2.trans (Z2q ns).symm) a3 (Z2k ns)
  subst hns
  refine ⟨.ref hp.objs.size,_,I.laid (t':=tk) (fun c u e=>?_) (Nat.le_of_lt hlt) (show ObjOk X.prog X.w _ _ _ (.lst ((srtI ns).map V.int)) from ⟨?_,out.toList,ee,Z3v a1,?_⟩),rfl,q _ (I.hok.fresh (Nat.le_of_lt hlt))⟩
  . have e':=kept c u e
    have h2:=Heap.lt_size e'
    rw [sortedHeap_old (Nat.ne_of_lt h2) (by rw [size_push']; exact Nat.lt_succ_of_lt h2)]
    exact Heap.get?_push_of_some _ e'
  . have:=a2.length_eq
    rw [List.length_map,this]
    omega
  . rw [Array.toArray_toList]
    exact he
noncomputable def Z3J:List Key -> Option (List Int)
  | []=>some []
  | .inl i :: r=>(Z3J r).map (i :: ·)
  | .inr _ :: _=>none
theorem Z5I:∀ {ks:List Key} {ns:List Int},Z3J ks=some ns -> ks=ns.map Sum.inl
  | [],ns,h=>by cases h; rfl
  | .inl i :: r,ns,h=>by
    unfold Z3J at h
    cases hr:Z3J r with
    | none=>rw [hr] at h; cases h
    | some m=>rw [hr] at h; cases h; rw [List.map_cons,<- Z5I hr]
  | .inr _ :: _,ns,h=>by cases h
theorem Z9J (ns:List Int):Z3J (ns.map Sum.inl)=some ns:=by
  induction ns with
  | nil=>rfl
  | cons n ns ih=>rw [List.map_cons]; unfold Z3J; rw [ih]; rfl
noncomputable def Z9h:List D -> Option D
  | [.dk ks _]=>match Z3J ks with
    | some ns=>if ns.length < 64 then some (.lst ((srtI ns).map .int)) else none
    | none=>none
  | _=>none
theorem ZbY {p:Pos} (hc:X.calm=true) (hg:Gl X "sorted") (hm:X.mg "sorted" = none) (ha:QE X m1 rs1 a fa) (he:starEach [a] X.env=(false,eval a X.env) :: starEach [] X.env:=by rfl) (hpl:(backTo pos (starEach [] X.env)).any (·.1)=false:=by rfl) :
    QE X m rs (.Call (.Name "sorted" p) [a] [] pos) (fB1 Z9h (Z02 fa fNil)) :=
  Z4r (Z72 hc) hg hm Z5X (Z01 ha Z07 he) (fun ds d vs H fp Q e r q=>by
    unfold Z9h at e
    split at e
    . rename_i ks xs
      cases hq:Z3J ks with
      | none=>rw [hq] at e; cases e
      | some ns =>
        rw [hq] at e
        simp only at e
        split at e
        . rename_i h64
          cases e
          obtain ⟨v,rfl,r1⟩:=Z4o r
          simp only [Rep] at r1
          obtain ⟨p,ws,fp',rfl,rfl,hs,hl,hr⟩:=r1
          refine ⟨p,_,ns,rfl,hs,?_,h64,fun l hl=>?_⟩
          . rw [<- Z5I hq,List.map_fst_zip (by omega)]
          . exact q _ _ [l] (Z0O hl) (Z4v hl (Z3B (srtI ns))) (fun b hb=>by simp at hb; rw [hb]; exact hl) (by simp)
        . cases e
    . cases e) (he:=he) (hpl:=hpl)
end
noncomputable abbrev Itm:=Sum Nat (En -> Option D)
section
variable {X:Cx} {m m' m1 m2:Bool} {rs rs' rs1 rs2:List Nat} {e a b c:Expr} {es:List Expr} {f fa fb:En -> Option D} {is:List Itm} {pos p p2 p3 pos':Pos} {i j:Nat} {x y:Str}
end
end PD
namespace HT
open PySem PyProof.Rows
section
variable {prog:Program} {w:World} {A:Around} {E:Value -> Shared -> Prop} {s:Shared}
end
end HT
namespace PD
open PySem PySem.Spec PyProof.Rows L2
section
variable {X:Cx} {m m' m1 m2:Bool} {rs rs' rs1 rs2:List Nat} {e a b c:Expr} {f fa fb:En -> Option D} {pos p p2 p3 pos':Pos}
end
section
variable {X:Cx} {m m' m1 m2:Bool} {rs rs' rs1 rs2:List Nat} {e a b c:Expr} {f fa fb:En -> Option D} {pos p p2 p3 pos':Pos}
noncomputable def ZfJ (K:Frag):R2:=fun x y H Q=>∃ l b xs zs,x=.ref l /\ y=.ref b /\ SqL K H l xs /\ SqL K H b zs /\ xs.length + zs.length <= sizeLine /\ ∀ p,H p=none -> Q (.ref p) (upd H p (.lst (xs ++ zs)))
theorem ZdX:OpR X (binaryOp .Add) (ZfJ X.K):=by
  intro pins s σ H x y v u Q I rx ry h
  obtain ⟨l,b,xs,zs,rfl,rfl,hH,hB,hz,q⟩:=h
  cases rx
  cases ry
  obtain ⟨its,r,⟨⟨c1,d1,t1,sl1⟩,n1,g1,k1,k2,k3⟩,hl⟩:=I.list hH
  obtain ⟨its2,r2,⟨⟨c2,d2,t2,sl2⟩,n2,g2,j1,j2,j3⟩,hl2⟩:=I.list hB
  simp only at k1 k2 k3 j1 j2 j3
  subst k1 k2 k3 j1 j2 j3
  have l1:=r.length
  have l2:=r2.length
  refine concat_meets ⟨_,g1,rfl⟩ ⟨_,g2,rfl⟩ noFill_list_add seq_list_add PySem.F.slot_list_add PySem.F.entry_list_add (PySem.F.args_list_add_2 _ _) (list_addW l b its.toArray its2.toArray n1 n2 none none sl1 sl2 (by rw [List.size_toArray,List.size_toArray]; omega)) ⟨g1,g2,?_⟩
  have ea:its.toArray ++ its2.toArray=(its ++ its2).toArray:=by simp
  rw [ea]
  exact ⟨.ref _,_,I.lnew (t':=s.toks) (r.append r2) (by rw [List.length_append]; omega),rfl,q _ I.fresh⟩
noncomputable def Zbo (fa fb:En -> Option D):En -> Option D:=fun env=>match fa env,fb env with
  | some (.lst xs),some (.lst ys)=>if (Z1m xs=true /\ Z1m ys=true) /\ xs.length + ys.length <= 1000 then some (.lst (xs ++ ys)) else none
  | _,_=>none
theorem ZdB (ha:QE X m1 rs1 a fa) (hb:QE X m2 rs2 b fb):QE X m rs (.BinOp a .Add b pos) (Zbo fa fb) :=
  .mk (L2.pe_op ZdX ha hb) fun σ H Q ⟨env,F,d,ok,e,q⟩=>by
    unfold Zbo at e
    split at e
    . rename_i xs ys h1 h2
      split at e
      . rename_i hf
        cases e
        refine two ok h1 h2 fun v u H' f1 f2 s r1 r2 _ _=>?_
        obtain ⟨p,vs,fp',rfl,hsq,hr,hsub⟩:=Z0N r1
        obtain ⟨p',us,fp'',rfl,hsq',hr',hsub'⟩:=Z0N r2
        obtain ⟨_,g2⟩:=Reps.flat _ _ _ hf.1.1 hr
        obtain ⟨_,g4⟩:=Reps.flat _ _ _ hf.1.2 hr'
        have ra:=(g2 m).append (g4 m)
        refine ⟨p,p',vs,us,rfl,rfl,hsq,hsq',Z47 (by rw [hr.length,hr'.length]; exact hf.2),fun p2 hp=>?_⟩
        exact q _ _ [p2] (s.trans (Z0O hp)) (Z4v hp ra) (Z4D (m:=m) (K:=X.K) s hp ra .nil)
      . cases e
    . cases e
end
section
variable {env:En} {fa fb f:En -> Option D} {b c:En -> Option Bool} {fs:En -> Option (List D)} {g h:En -> Res}
@[simp] theorem ev_var {i:Nat}:fVar i env=(env[i]?).join.map (·.2):=(rfl)
@[simp] theorem ev_C {d:D}:fC d env=some d:=(rfl)
@[simp] theorem ev_Flat:Z0n f env=match f env with | some d=>if flat d=true then some d else none | none=>none:=(rfl)
@[simp] theorem ev_B:fB f env=match f env with | some (.bl b)=>some b | _=>none:=(rfl)
@[simp] theorem ev_OfB:fOfB b env=(b env).map .bl:=(rfl)
@[simp] theorem ev_And:fAnd b c env=match b env with | some true=>c env | some false=>some false | none=>none:=(rfl)
@[simp] theorem ev_Or:fOr b c env=match b env with | some false=>c env | some true=>some true | none=>none:=(rfl)
@[simp] theorem ev_Not:fNot b env=(b env).map (!·):=(rfl)
@[simp] theorem ev_Nil:fNil env=some []:=(rfl)
@[simp] theorem ev_Cons:Z02 f fs env=match f env,fs env with | some d,some ds=>some (d :: ds) | _,_=>none:=(rfl)
@[simp] theorem ev_Tup:fTup fs env=match fs env with | some ds=>if ds.length <= 1000 then some (.tup ds) else none | none=>none:=(rfl)
@[simp] theorem ev_Lst:fLst fs env=match fs env with | some ds=>if ds.length <= 1000 then some (.lst ds) else none | none=>none:=(rfl)
@[simp] theorem ev_BI {p:Int -> Int -> Bool}:fBI p fa fb env=match fa env,fb env with | some (.int i),some (.int j)=>some (p i j) | _,_=>none:=(rfl)
@[simp] theorem ev_IsN {neg:Bool}:fIsN neg fa env=match fa env with | some .non=>some (!neg) | some _=>some neg | none=>none:=(rfl)
@[simp] theorem ev_Eq:fEq fa fb env=match fa env,fb env with | some x,some y=>eqN 8 x y | _,_=>none:=(rfl)
@[simp] theorem ev_Ix : fIx fa fb env = match fa env, fb env with
  | some (.lst ds),some (.int i)=>atI ds i
  | some (.tup ds),some (.int i)=>atI ds i
  | some (.str z),some (.int i)=>if z.length <= 1000 then (atI z.cps.toList i).map fun c=>.str ⟨#[c]⟩ else none
  | _,_=>none:=(rfl)
@[simp] theorem ev_I2' {C : Int -> Int -> Prop} {g : Int -> Int -> D} : fI2 C g fa fb env = match fa env, fb env with
  | some (.int i),some (.int j)=>open Classical in if C i j then some (g i j) else none
  | _,_=>none:=(rfl)
@[simp] theorem ev_I0' {g : Int -> Int -> D} : fI0 g fa fb env = match fa env, fb env with
  | some (.int i),some (.int j)=>some (g i j)
  | _,_=>none:=(rfl)
@[simp] theorem ev_Call {F':List D -> Option D} {dds:List D}:Z0f F' dds fs env=match fs env with | some xs=>F' (xs ++ dds) | none=>none:=by unfold Z0f; cases fs env <;> rfl
@[simp] theorem ev_B1 {F':List D -> Option D}:fB1 F' fs env=match fs env with | some xs=>F' xs | none=>none:=by unfold fB1; cases fs env <;> rfl
@[simp] theorem ev_NoP:fNoP env=some none:=(rfl)
@[simp] theorem ev_P:fP f env=match f env with | some (.int i)=>some (some i) | _=>none:=(rfl)
@[simp] theorem ev_seq:fSeq fa env=match fa env with | some (.lst ds)=>some ds | some (.tup ds)=>some ds | _=>none:=(rfl)
@[simp] theorem ev_TT:fTT env=some true:=(rfl)
@[simp] theorem ev_cat:fCat fa fb env=match fa env,fb env with | some (.lst a),some (.lst b)=>if a.length + b.length <= 1000 then some (.lst (a ++ b)) else none | _,_=>none:=(rfl)
theorem ev_Sl {fl fh:En -> Option (Option Int)}:fSl fa fl fh env=match fa env,fl env,fh env with
  | some (.lst ds),some lo,some hi=>if Z1m ds=true then some (.lst (cutD ds lo hi)) else none
  | some (.tup ds),some lo,some hi=>if Z1m ds=true /\ ¬ (HT.sIx ds.length 0 lo=0 /\ HT.sIx ds.length ds.length hi=ds.length) then some (.tup (cutD ds lo hi)) else none
  | _,_,_=>none:=(rfl)
theorem ev_In:fIn fa fb env=match fa env,fb env with | some x,some y=>inF x y | _,_=>none:=(rfl)
theorem ev_CatF:Zbo fa fb env=match fa env,fb env with | some (.lst a),some (.lst b)=>if (Z1m a=true /\ Z1m b=true) /\ a.length + b.length <= 1000 then some (.lst (a ++ b)) else none | _,_=>none:=(rfl)
theorem ev_InK:fInK fa fb env=match fa env,fb env with
  | some x,some (.dk ks ds)=>match keyOf x with
    | some k=>some (memK k ks)
    | none=>none
  | _,_=>none:=(rfl)
theorem ev_DGet:Z4f fa fb env=match fa env,fb env with
  | some (.dk ks ds),some x=>match keyOf x with
    | some k=>match Z3i ks ds k with
      | some d=>if flat d=true then some d else none
      | none=>none
    | none=>none
  | _,_=>none:=(rfl)
@[simp] theorem ev_rNext:Z11 env=.next env:=(rfl)
@[simp] theorem ev_rIf:rIf c g h env=match c env with | some true=>g env | some false=>h env | none=>.bad:=(rfl)
@[simp] theorem ev_rRet:rRet f env=match f env with | some d=>.ret d | none=>.bad:=(rfl)
@[simp] theorem ev_rSet {i:Nat}:rSet i f env=match f env with | some d=>.next (env.set i (some (true,d))) | none=>.bad:=(rfl)
@[simp] theorem ev_rSeq:rSeq g h env=match g env with | .next env'=>h env' | r=>r:=(rfl)
end
noncomputable def LI (xs:List Int):D:=.lst (xs.map .int)
theorem eqN_int (n:Nat) (a b:Int):eqN (n + 1) (.int a) (.int b)=some (decide (a=b)):=by simp only [eqN]; congr
theorem eqN_str (n:Nat) (a b:Str):eqN (n + 1) (.str a) (.str b)=some (a == b):=by simp only [eqN]
theorem eqN_bl (n:Nat) (a b:Bool):eqN (n + 1) (.bl a) (.bl b)=some (a == b):=by simp only [eqN]
theorem eqN_non {n:Nat}:eqN (n + 1) .non .non=some true:=by simp only [eqN]
theorem eqN_tnon {n:Nat} {xs:List D}:eqN (n + 1) (.tup xs) .non=some false:=by simp only [eqN]
theorem eqN_tup (n:Nat) (xs ys:List D):eqN (n + 1) (.tup xs) (.tup ys)=(eqL (eqN n) xs ys).map (· && xs.length == ys.length):=by simp only [eqN]
theorem Zeh (n:Nat) (xs ys:List D):eqN (n + 1) (.lst xs) (.lst ys)=if xs.length=ys.length then eqL (eqN n) xs ys else some false:=by simp only [eqN]
theorem eqL_cons {f:D -> D -> Option Bool} {x y:D} {xs ys:List D}:eqL f (x :: xs) (y :: ys)=match f x y,eqL f xs ys with | some a,some b=>some (a && b) | _,_=>none:=by rw [eqL]; try (cases f x y <;> cases eqL f xs ys <;> rfl)
theorem eqL_nil {f:D -> D -> Option Bool} {ys:List D}:eqL f [] ys=some true:=by simp only [eqL]
theorem eqL_nilL {f:D -> D -> Option Bool} {xs:List D}:eqL f xs []=some true:=by cases xs <;> simp only [eqL]
theorem Z98 {f:D -> D -> Option Bool}:∀ {xs:List D},(∀ x ∈ xs,f x x=some true) -> eqL f xs xs=some true
  | [],_=>by simp only [eqL]
  | x :: xs,h=>by
    rw [eqL_cons,h x List.mem_cons_self,Z98 fun y hy=>h y (List.mem_cons_of_mem _ hy)]
    rfl
theorem atI_m3 {α:Type} (x y z:α):atI [x,y,z] (-1)=some z:=rfl
theorem atI_m4 {α:Type} (x y z w:α):atI [x,y,z,w] (-1)=some w:=rfl
theorem atI_0 {α:Type} (x:α) (xs:List α):atI (x :: xs) 0=some x:=Z4g (j:=0) rfl
theorem atI_1 {α:Type} (x y:α) (xs:List α):atI (x :: y :: xs) 1=some y:=Z4g (j:=1) rfl
theorem atI_2 {α:Type} (x y z:α) (xs:List α):atI (x :: y :: z :: xs) 2=some z:=Z4g (j:=2) rfl
theorem atI_3 {α:Type} (x y z w:α) (xs:List α):atI (x :: y :: z :: w :: xs) 3=some w:=Z4g (j:=3) rfl
theorem Z3H {a b:Int} (h:-(2 ^ 64) < a) (h2:a < 2 ^ 64):IntMulOk a b:=.of_left (PySem.intBits_le_64 h h2)
theorem Z8g {a b:Int} (h:-(2 ^ 64) < b) (h2:b < 2 ^ 64):IntMulOk a b:=.of_right (PySem.intBits_le_64 h h2)
theorem sIx1 (n:Nat):HT.sIx (n + 1) 0 (some 1)=1:=by
  have:=HT.sIx_nat (n + 1) 0 1
  simpa using this
theorem cut1 (x:D) (xs:List D):PD.cutD (x :: xs) (some 1) none=xs:=by
  unfold PD.cutD
  rw [List.length_cons,sIx1,HT.sIx_none]
  simp
theorem Z5j (xs:List D) (n:Nat):PD.cutD xs none (some (n:Int))=xs.take n:=by
  unfold PD.cutD
  rw [HT.sIx_nat,HT.sIx_none]
  simp only [List.drop_zero,Nat.sub_zero]
  by_cases h:n <= xs.length
  . rw [Nat.min_eq_left h]
  . rw [Nat.min_eq_right (by omega),List.take_length,List.take_of_length_le (by omega)]
noncomputable def nth (vs:List Int) (a:Int):Int:=vs.getD a.toNat 0
theorem Z2S {vs:List Int} {a:Int} (h0:0 <= a) (h1:a < vs.length):atI (vs.map D.int) a=some (.int (nth vs a)):=by
  have e:atI (vs.map D.int) ((a.toNat:Nat):Int)=some (.int (nth vs a)):=by
    refine Z4g ?_
    have hl:a.toNat < vs.length:=by omega
    simp [nth,List.getD,hl]
  rwa [Int.toNat_of_nonneg h0] at e
theorem Z2Q (xs:List Int):Z1m (xs.map D.int)=true:=Z37 fun d hd=>by
  obtain ⟨i,_,rfl⟩:=List.mem_map.mp hd
  rfl
theorem Zd3 {n:Nat} {l:Int} (h0:0 <= l) (h1:l < n):ixN n l=some l.toNat:=by simp [ixN,h0,h1]
theorem Z5H:∀ (xs:List Int),Z5b (xs.map D.int)=some xs
  | []=>rfl
  | x :: xs=>by simp only [List.map_cons,Z5b,Z5H xs,Option.map_some]
theorem Zaa (xs:List Int):FSum [.lst (xs.map D.int)]=some (.int xs.sum):=by simp only [FSum,Z5H,Option.map_some]
theorem Z94 {t:D -> En -> Option En} {g:En -> Res} (I:Nat -> En -> Prop):∀ (ds:List D) (k:Nat) (env:En),(∀ i d env,ds[i]? = some d -> I (k + i) env -> ∃ env1 env2,t d env=some env1 /\ (g env1=.next env2 \/ g env1=.cont env2) /\ I (k + i + 1) env2) -> I k env ->
    ∃ env',forD t g ds env=.next env' /\ I (k + ds.length) env'
  | [],k,env,_,h=>⟨env,rfl,h⟩
  | d :: ds,k,env,st,h=>by
    obtain ⟨env1,env2,h1,h2,h3⟩:=st 0 d env rfl h
    obtain ⟨env',h4,h5⟩:=Z94 I ds (k + 1) env2 (fun i d' e hd hI=>by
      have:=st (i + 1) d' e (by simpa using hd) (by rwa [show k + (i + 1)=k + 1 + i by omega])
      rwa [show k + (i + 1) + 1=k + 1 + i + 1 by omega] at this) h3
    refine ⟨env',?_,by rwa [List.length_cons,show k + (ds.length + 1)=k + 1 + ds.length by omega]⟩
    unfold forD
    rw [h1]
    simp only
    rcases h2 with h2 | h2 <;> (rw [h2]; exact h4)
theorem Z1e {L:Nat} {g:En -> Res} {ds:List D} {d:D} (h:g (enStart L ds)=.ret d):runF L g ds=some d:=by unfold runF; rw [h]
theorem seqN {g h:En -> Res} {env env':En} {r:Res} (e:g env=.next env') (q:h env'=r):rSeq g h env=r:=by unfold rSeq; rw [e]; exact q
theorem Zai {rs:List Nat} {src:En -> Option (List D)} {t:D -> En -> Option En} {g:En -> Res} {env env':En} {ds:List D} (e:src env=some ds) (h:forD t g ds (fz rs env)=.next env'):rFor rs src t g env=.next env':=by unfold rFor; rw [e]; exact h
theorem Z0V {f:En -> Option D} {env:En} {ds:List D} (h:f env=some (.lst ds)):fSeq f env=some ds:=by unfold fSeq; rw [h]
theorem Zbk {t:D -> En -> Option En} {g:En -> Res} (I:Nat -> En -> Prop) {ds:List D} {env:En} (st:∀ i d env,ds[i]? = some d -> I i env -> ∃ env1 env2,t d env=some env1 /\ (g env1=.next env2 \/ g env1=.cont env2) /\ I (i + 1) env2) (h:I 0 env) :
    ∃ env',forD t g ds env=.next env' /\ I ds.length env':=by
  have:=Z94 I ds 0 env (fun i d e hd hI=>by rw [Nat.zero_add] at *; exact st i d e hd hI) h
  rwa [Nat.zero_add] at this
theorem sSet {i:Nat} {f:En -> Option D} {k:En -> Res} {env:En} {d:D} {r:Res} (h:f env=some d) (q:k (env.set i (some (true,d)))=r):rSeq (rSet i f) k env=r:=by unfold rSeq rSet; rw [h]; exact q
theorem sIfT {c:En -> Option Bool} {g h k:En -> Res} {env:En} {r:Res} (e:c env=some true) (q:rSeq g k env=r):rSeq (rIf c g h) k env=r:=by
  unfold rSeq rIf at *; rw [e]; exact q
theorem sNo {c:En -> Option Bool} {g k:En -> Res} {env:En} {r:Res} (e:c env=some false) (q:k env=r):rSeq (rIf c g Z11) k env=r:=by
  unfold rSeq rIf; rw [e]; exact q
theorem Z7i {f:En -> Option D} {k:En -> Res} {env:En} {d:D} (h:f env=some d):rSeq (rRet f) k env=.ret d:=by unfold rSeq rRet; rw [h]
theorem Z2b {f:En -> Option D} {env:En} {d:D} (h:f env=some d):rRet f env=.ret d:=by unfold rRet; rw [h]
theorem Zdt {i:Nat} {f:En -> Option D} {env:En} {d:D} (h:f env=some d):rSet i f env=.next (env.set i (some (true,d))):=by unfold rSet; rw [h]
theorem rIfT {c:En -> Option Bool} {g h:En -> Res} {env:En} {r:Res} (e:c env=some true) (q:g env=r):rIf c g h env=r:=by unfold rIf; rw [e]; exact q
theorem rIfF {c:En -> Option Bool} {g h:En -> Res} {env:En} {r:Res} (e:c env=some false) (q:h env=r):rIf c g h env=r:=by unfold rIf; rw [e]; exact q
theorem Z3D {i:Nat} {f:En -> Option D} {env:En} {d:D} {ds:List D} (h:f env=some d) (e:env[i]? = some (some (true,.lst ds))) (hl:ds.length <= 1000):rApp i f env=.next (env.set i (some (true,.lst (ds ++ [d])))):=by unfold rApp; rw [h,e]; simp [hl]
theorem Z95 {t:D -> En -> Option En} {g k:En -> Res} {r:Res} (I:Nat -> En -> Prop):∀ (ds:List D) (n:Nat) (env:En),(∀ i d env,ds[i]? = some d -> I (n + i) env -> ∃ env1,t d env=some env1 /\ ((∃ env2,(g env1=.next env2 \/ g env1=.cont env2) /\ I (n + i + 1) env2) \/ (∃ d',g env1=.ret d' /\ r=.ret d') \/ (∃ env2,g env1=.brk env2 /\ k env2=r))) -> I n env ->
    (∀ env',I (n + ds.length) env' -> k env'=r) -> (match forD t g ds env with | .next e=>k e | r=>r)=r
  | [],n,env,_,h,q=>by simpa [forD] using q env (by simpa using h)
  | d :: ds,n,env,st,h,q=>by
    obtain ⟨env1,h1,h2⟩:=st 0 d env rfl h
    unfold forD
    rw [h1]
    rcases h2 with ⟨env2,h3,h4⟩ | ⟨d',h3,rfl⟩ | ⟨env2,h3,h4⟩
    . have ih:=Z95 (k:=k) (r:=r) I ds (n + 1) env2 (fun i d' e hd hI=>by
        have:=st (i + 1) d' e (by simpa using hd) (by rwa [show n + (i + 1)=n + 1 + i by omega])
        rwa [show n + (i + 1) + 1=n + 1 + i + 1 by omega] at this) h4 (fun e he=>q e (by rwa [List.length_cons,show n + (ds.length + 1)=n + 1 + ds.length by omega]))
      rcases h3 with h3 | h3 <;> (simp only [h3]; exact ih)
    . simp only [h3]
    . simp only [h3]; exact h4
theorem sFor {rs:List Nat} {src:En -> Option (List D)} {t:D -> En -> Option En} {g k:En -> Res} {r:Res} {env:En} {ds:List D} (hs:src env=some ds) (I:Nat -> En -> Prop) (h0:I 0 (fz rs env))
    (st:∀ i d env,ds[i]? = some d -> I i env -> ∃ env1,t d env=some env1 /\ ((∃ env2,(g env1=.next env2 \/ g env1=.cont env2) /\ I (i + 1) env2) \/ (∃ d',g env1=.ret d' /\ r=.ret d') \/ (∃ env2,g env1=.brk env2 /\ k env2=r)))
    (hend:∀ env',I ds.length env' -> k env'=r):rSeq (rFor rs src t g) k env=r:=by
  unfold rSeq rFor
  rw [hs]
  exact Z95 I ds 0 _ (fun i d e hd hI=>by rw [Nat.zero_add] at *; exact st i d e hd hI) h0 (fun e he=>hend e (by rwa [Nat.zero_add] at he))
theorem Z63 {rs:List Nat} {src:En -> Option (List D)} {t:D -> En -> Option En} {g k:En -> Res} {r:Res} {env:En} {ds:List D} (hs:src env=some ds) (I:Nat -> En -> Prop) (h0:I 0 (fz rs env))
    (st:∀ i d env,ds[i]? = some d -> I i env -> ∃ env1 env2,t d env=some env1 /\ g env1=.next env2 /\ I (i + 1) env2)
    (hend:∀ env',I ds.length env' -> k env'=r):rSeq (rFor rs src t g) k env=r :=
  sFor hs I h0 (fun i d e hd hI=>let ⟨e1,e2,a,b,c⟩:=st i d e hd hI; ⟨e1,a,.inl ⟨e2,.inl b,c⟩⟩) hend
theorem Z5U {fe:En -> Option D} {env:En} {α:Type} (φ:α -> D) (ψ:α -> D):∀ (xs:List α),(∀ x ∈ xs,fe (some (false,φ x) :: env)=some (ψ x)) -> Z2f fTT fe env (xs.map φ)=some (xs.map ψ)
  | [],_=>rfl
  | x :: xs,h=>by
    have h1:=h x List.mem_cons_self
    have ih:=Z5U φ ψ xs fun y hy=>h y (List.mem_cons_of_mem _ hy)
    simp only [List.map_cons,Z2f,fTT,h1]
    rw [ih]
theorem Z1y {fr:List Nat} {src:En -> Option (List D)} {fe:En -> Option D} {env:En} {α:Type} (φ:α -> D) (ψ:α -> D) {xs:List α} (hs:src env=some (xs.map φ)) (hl:xs.length <= 1000) (h:∀ x ∈ xs,fe (some (false,φ x) :: enIn fr env)=some (ψ x)) :
    Z1E fr src fTT fe env=some (.lst (xs.map ψ)):=by
  unfold Z1E
  rw [hs]
  simp only [List.length_map,hl,if_true]
  rw [Z5U φ ψ xs h]
  rfl
theorem Z54 {fc:En -> Option Bool} {fe:En -> Option D} {env:En} {α:Type} (φ:α -> D) (ψ:α -> D) (p:α -> Bool):∀ (xs:List α),(∀ x ∈ xs,fc (some (false,φ x) :: env)=some (p x)) -> (∀ x ∈ xs,p x=true -> fe (some (false,φ x) :: env)=some (ψ x)) -> Z2f fc fe env (xs.map φ)=some ((xs.filter p).map ψ)
  | [],_,_=>rfl
  | x :: xs,hc,h=>by
    have h1:=hc x List.mem_cons_self
    have ih:=Z54 φ ψ p xs (fun y hy=>hc y (List.mem_cons_of_mem _ hy)) fun y hy=>h y (List.mem_cons_of_mem _ hy)
    simp only [List.map_cons,Z2f,h1]
    cases hp:p x with
    | true =>
      have h2:=h x List.mem_cons_self hp
      simp only [h2,ih,List.filter_cons,hp,if_true,List.map_cons]
    | false=>simp only [ih,List.filter_cons,hp]; simp
theorem Z7Q {fr:List Nat} {src:En -> Option (List D)} {fc:En -> Option Bool} {fe:En -> Option D} {env:En} {α:Type} (φ:α -> D) (ψ:α -> D) (p:α -> Bool) {xs:List α} (hs:src env=some (xs.map φ)) (hl:xs.length <= 1000) (hc:∀ x ∈ xs,fc (some (false,φ x) :: enIn fr env)=some (p x)) (h:∀ x ∈ xs,p x=true -> fe (some (false,φ x) :: enIn fr env)=some (ψ x)) :
    Z1E fr src fc fe env=some (.lst ((xs.filter p).map ψ)):=by
  unfold Z1E
  rw [hs]
  simp only [List.length_map,hl,if_true]
  rw [Z54 φ ψ p xs hc h]
  rfl
theorem Z0e {F':List D -> Option D} {dds xs:List D} {fs:En -> Option (List D)} {env:En} {r:Option D} (h:fs env=some xs) (q:F' (xs ++ dds)=r):Z0f F' dds fs env=r:=by unfold Z0f; rw [h]; exact q
theorem Z3o {F':List D -> Option (List D)} {xs:List D} {fs:En -> Option (List D)} {env:En} {r:Option (List D)} (h:fs env=some xs) (q:F' xs=r):sB1 F' fs env=r:=by unfold sB1; rw [h]; exact q
theorem Z2i {F':List D -> Option D} {xs:List D} {fs:En -> Option (List D)} {env:En} {r:Option D} (h:fs env=some xs) (q:F' xs=r):fB1 F' fs env=r:=by unfold fB1; rw [h]; exact q
theorem Z0d {f:En -> Option D} {fs:En -> Option (List D)} {env:En} {d:D} {ds:List D} (h:f env=some d) (q:fs env=some ds):Z02 f fs env=some (d :: ds):=by unfold Z02; rw [h,q]
theorem rng1 {j:Int} (h0:0 <= j) (h1:j <= 1000):Z4h [.int j]=some ((List.range j.toNat).map fun (k:Nat)=>.int (0 + (k:Int))):=by
  simp only [Z4h]
  rw [if_pos (by omega)]
theorem Zds {n:Nat} (h1:n <= 1000):Z4h [.int (n:Int)]=some ((List.range n).map fun (k:Nat)=>.int (k:Int)):=by
  rw [rng1 (by omega) (by omega),Int.toNat_natCast]
  congr 1
  apply List.map_congr_left
  intro a _
  congr 1; omega
theorem rngZ {j:Int} {n:Nat} (e:j=(n:Int)) (h:n <= 1000):Z4h [.int j]=some ((List.range n).map fun (k:Nat)=>.int (k:Int)):=by
  rw [e]; exact Zds h
theorem Z0v {α:Type} {l:List α} {i:Nat} {x:α} (h:l[i]? = some x):l.take (i + 1)=l.take i ++ [x]:=by
  obtain ⟨hi,e⟩:=List.getElem?_eq_some_iff.mp h
  rw [List.take_succ,h]; rfl
theorem Z14 {α β:Type} {f:α -> β} {l:List α} {i:Nat} {y:β} (h:(l.map f)[i]? = some y):∃ x,l[i]? = some x /\ y=f x:=by
  rw [List.getElem?_map] at h
  cases e:l[i]? with
  | none=>rw [e] at h; cases h
  | some x=>rw [e] at h; cases h; exact ⟨x,rfl,rfl⟩
theorem Z34 {α β:Type} {f:Nat -> α -> β} {l:List α} {i:Nat} {y:β} (h:(l.mapIdx f)[i]? = some y):∃ x,l[i]? = some x /\ y=f i x:=by
  rw [List.getElem?_mapIdx] at h
  cases e:l[i]? with
  | none=>rw [e] at h; cases h
  | some x=>rw [e] at h; cases h; exact ⟨x,rfl,rfl⟩
theorem Z3C {n i:Nat} {f:Nat -> D} {y:D} (h:((List.range n).map f)[i]? = some y):i < n /\ y=f i:=by
  obtain ⟨x,h1,rfl⟩:=Z14 h
  rw [List.getElem?_range] at h1
  . cases h1
    have hi:i < n:=by
      by_cases z:i < n
      . exact z
      . rw [List.getElem?_eq_none (by simp; omega)] at h
        cases h
    exact ⟨hi,rfl⟩
  . by_cases z:i < n
    . exact z
    . rw [List.getElem?_eq_none (by simp; omega)] at h
      cases h
theorem Zdp (n:Nat):(0:Int) < 1 * 2 ^ n:=by rw [Int.one_mul]; exact Int.pow_pos (by decide)
theorem Z7D (n:Nat):(2 ^ n).log2=n:=by
  rw [Nat.log2_eq_iff (Nat.ne_of_gt (Nat.two_pow_pos n))]
  exact ⟨Nat.le_refl _,Nat.pow_lt_pow_right (by decide) (Nat.lt_succ_self n)⟩
theorem Z9c {i:Int} {n:Nat} (h:n < 9000):Z2h i (1 * 2 ^ n):=by
  refine ⟨Zdp n,?_⟩
  rw [Int.one_mul,Int.natAbs_pow]
  show (2 ^ n).log2 < 9000
  rw [Z7D]; exact h
noncomputable def Wp (r:Res) (Q:Res -> Prop):Prop:=Q r
noncomputable def Rt (P:D -> Prop):Res -> Prop:=fun r=>∃ d,r=.ret d /\ P d
section
variable {Q:Res -> Prop} {env:En} {k g h:En -> Res} {f:En -> Option D} {c:En -> Option Bool} {i:Nat} {d:D} {P:D -> Prop}
theorem runW {L:Nat} {ds:List D} (w:Wp (g (enStart L ds)) (Rt P)):∃ d,runF L g ds=some d /\ P d:=by
  obtain ⟨d,e,p⟩:=w
  exact ⟨d,Z1e e,p⟩
theorem wSet (e:f env=some d) (q:Wp (k (env.set i (some (true,d)))) Q):Wp (rSeq (rSet i f) k env) Q:=by unfold rSeq rSet; rw [e]; exact q
theorem Zde (e:f env=some d) (q:Q (.next (env.set i (some (true,d))))):Wp (rSet i f env) Q:=by unfold rSet; rw [e]; exact q
theorem wIfT (e:c env=some true) (q:Wp (rSeq g k env) Q):Wp (rSeq (rIf c g h) k env) Q:=by unfold rSeq rIf at *; rw [e]; exact q
theorem Z9Z (e:c env=some true) (q:Wp (g env) Q):Wp (rIf c g h env) Q:=by unfold rIf at *; rw [e]; exact q
theorem Z84 (e:c env=some false) (q:Wp (h env) Q):Wp (rIf c g h env) Q:=by unfold rIf at *; rw [e]; exact q
theorem wNo (e:c env=some false) (q:Wp (k env) Q):Wp (rSeq (rIf c g Z11) k env) Q:=by unfold rSeq rIf; rw [e]; exact q
theorem wRet (e:f env=some d) (q:Q (.ret d)):Wp (rRet f env) Q:=by unfold rRet; rw [e]; exact q
theorem ZbM (e:f env=some d) (q:Q (.ret d)):Wp (rSeq (rRet f) k env) Q:=by unfold rSeq rRet; rw [e]; exact q
theorem Z9Y (q:Q (.next env)):Wp (Z11 env) Q:=q
theorem wSeq (q:Wp (g env) fun r=>match r with | .next e=>Wp (k e) Q | r=>Q r):Wp (rSeq g k env) Q:=by
  unfold rSeq Wp at *
  cases e:g env <;> rw [e] at q <;> simpa only [e] using q
theorem wApp {ds:List D} (h:f env=some d) (e:env[i]? = some (some (true,.lst ds))) (hl:ds.length <= 1000) (q:Wp (k (env.set i (some (true,.lst (ds ++ [d]))))) Q):Wp (rSeq (rApp i f) k env) Q:=by
  unfold rSeq; rw [Z3D h e hl]; exact q
theorem Z79 {ds:List D} (h:f env=some d) (e:env[i]? = some (some (true,.lst ds))) (hl:ds.length <= 1000) (q:Q (.next (env.set i (some (true,.lst (ds ++ [d])))))):Wp (rApp i f env) Q:=by
  rw [Z3D h e hl]; exact q
theorem wMid (M:En -> Prop) (h1:Wp (g env) (fun r=>∃ e,r=.next e /\ M e)) (h2:∀ e,M e -> Wp (k e) Q):Wp (rSeq g k env) Q:=by
  obtain ⟨e,h3,h4⟩:=h1
  unfold rSeq
  rw [h3]
  exact h2 e h4
theorem wUnp {rs:List Nat} {t:D -> En -> Option En} {env':En} (e:f env=some d) (e2:t d (fz rs env)=some env') (q:Wp (k env') Q):Wp (rSeq (rUnp rs t f) k env) Q:=by
  unfold rSeq rUnp; rw [e]; simp only [e2]; exact q
theorem Zfs (e:env[i]? = some (some (true,d))) (q:Q (.ret d)):Wp (Z4I i env) Q:=by
  unfold Z4I; simp only [e]; exact q
theorem runE {L:Nat} {ds:List D} {d:D} (w:Wp (g (enStart L ds)) (fun r=>r=.ret d)):runF L g ds=some d:=Z1e w
theorem wEq {r:Res} (e:g env=r) (q:Q r):Wp (g env) Q:=by rw [e]; exact q
noncomputable def Tn (I:En -> Prop) (k:En -> Res) (Q:Res -> Prop):Res -> Prop
  | .next e=>I e
  | .cont e=>I e
  | .brk e=>Wp (k e) Q
  | .ret d=>Q (.ret d)
  | .bad=>False
theorem Zbj {t:D -> En -> Option En} (I:Nat -> En -> Prop):∀ (ds:List D) (n:Nat) (env:En),(∀ i d env,ds[i]? = some d -> I (n + i) env -> ∃ env1,t d env=some env1 /\ Wp (g env1) (Tn (I (n + i + 1)) k Q)) -> I n env ->
    (∀ env',I (n + ds.length) env' -> Wp (k env') Q) -> Wp (match forD t g ds env with | .next e=>k e | r=>r) Q
  | [],n,env,_,h,q=>by simpa [forD] using q env (by simpa using h)
  | d :: ds,n,env,st,h,q=>by
    obtain ⟨env1,h1,h2⟩:=st 0 d env rfl h
    unfold forD
    rw [h1]
    have ih:∀ env2,I (n + 0 + 1) env2 -> Wp (match forD t g ds env2 with | .next e=>k e | r=>r) Q:=fun env2 h4=>Zbj I ds (n + 1) env2 (fun i d' e hd hI=>by
        have:=st (i + 1) d' e (by simpa using hd) (by rwa [show n + (i + 1)=n + 1 + i by omega])
        rwa [show n + (i + 1) + 1=n + 1 + i + 1 by omega] at this) h4 (fun e he=>q e (by rwa [List.length_cons,show n + (ds.length + 1)=n + 1 + ds.length by omega]))
    unfold Wp at h2
    cases e1:g env1 with
    | next e=>rw [e1] at h2; simp only [e1]; exact ih e h2
    | cont e=>rw [e1] at h2; simp only [e1]; exact ih e h2
    | brk e=>rw [e1] at h2; simp only [e1]; exact h2
    | ret d'=>rw [e1] at h2; simp only [e1]; exact h2
    | bad=>rw [e1] at h2; exact h2.elim
theorem wFor {rs:List Nat} {src:En -> Option (List D)} {t:D -> En -> Option En} {ds:List D} (hs:src env=some ds) (I:Nat -> En -> Prop) (h0:I 0 (fz rs env))
    (st:∀ i d env,ds[i]? = some d -> I i env -> ∃ env1,t d env=some env1 /\ Wp (g env1) (Tn (I (i + 1)) k Q))
    (hend:∀ env',I ds.length env' -> Wp (k env') Q):Wp (rSeq (rFor rs src t g) k env) Q:=by
  unfold rSeq rFor
  rw [hs]
  exact Zbj I ds 0 _ (fun i d e hd hI=>by rw [Nat.zero_add] at *; exact st i d e hd hI) h0 (fun e he=>hend e (by rwa [Nat.zero_add] at he))
theorem Z6w {rs:List Nat} {src:En -> Option (List D)} {t:D -> En -> Option En} {ds:List D} (hs:src env=some ds) (I:Nat -> En -> Prop) (h0:I 0 (fz rs env))
    (st:∀ i d env (R:Res -> Prop),ds[i]? = some d -> I i env -> (∀ e,I (i + 1) e -> R (.next e)) -> ∃ env1,t d env=some env1 /\ Wp (g env1) R)
    (hend:∀ env',I ds.length env' -> Wp (k env') Q):Wp (rSeq (rFor rs src t g) k env) Q :=
  wFor hs I h0 (fun i d e hd hI=>st i d e _ hd hI fun _ z=>z) hend
theorem ZcO {c:En -> Option Bool} (I:Nat -> En -> Prop) {m:Nat} (h0:I m env)
    (st:∀ m env,I m env -> (c env=some false /\ Wp (k env) Q) \/ (c env=some true /\ Wp (g env) (Tn (fun e=>∃ m',m' < m /\ I m' e) k Q))):Wp (rSeq (rWh c g) k env) Q:=by
  have key:∀ (n m:Nat) (env:En),m <= n -> I m env -> ∃ r,whD c g (n + 1) env=r /\ ((∃ e,r=.next e /\ Wp (k e) Q) \/ (∃ d,r=.ret d /\ Q (.ret d))):=by
    intro n
    induction n with
    | zero =>
      intro m env hm hI
      rcases st m env hI with ⟨h1,h2⟩ | ⟨h1,h2⟩
      . exact ⟨_,rfl,.inl ⟨env,by simp only [whD,h1],h2⟩⟩
      . unfold Wp at h2
        cases hg:g env with
        | next e=>rw [hg] at h2; obtain ⟨m',l,_⟩:=h2; omega
        | cont e=>rw [hg] at h2; obtain ⟨m',l,_⟩:=h2; omega
        | brk e=>rw [hg] at h2; exact ⟨_,rfl,.inl ⟨e,by simp only [whD,h1,hg],h2⟩⟩
        | ret d=>rw [hg] at h2; exact ⟨_,rfl,.inr ⟨d,by simp only [whD,h1,hg],h2⟩⟩
        | bad=>rw [hg] at h2; exact h2.elim
    | succ n ih =>
      intro m env hm hI
      rcases st m env hI with ⟨h1,h2⟩ | ⟨h1,h2⟩
      . exact ⟨_,rfl,.inl ⟨env,by simp only [whD,h1],h2⟩⟩
      . unfold Wp at h2
        cases hg:g env with
        | next e =>
          rw [hg] at h2
          obtain ⟨m',l,h3⟩:=h2
          obtain ⟨r,e1,e2⟩:=ih m' e (by omega) h3
          exact ⟨r, by rw [<- e1]; conv => lhs; unfold whD
                       simp only [h1,hg],e2⟩
        | cont e =>
          rw [hg] at h2
          obtain ⟨m',l,h3⟩:=h2
          obtain ⟨r,e1,e2⟩:=ih m' e (by omega) h3
          exact ⟨r, by rw [<- e1]; conv => lhs; unfold whD
                       simp only [h1,hg],e2⟩
        | brk e=>rw [hg] at h2; exact ⟨_,rfl,.inl ⟨e,by simp only [whD,h1,hg],h2⟩⟩
        | ret d=>rw [hg] at h2; exact ⟨_,rfl,.inr ⟨d,by simp only [whD,h1,hg],h2⟩⟩
        | bad=>rw [hg] at h2; exact h2.elim
  obtain ⟨r,e1,e2⟩:=key m m env (Nat.le_refl _) h0
  have hne:whD c g (m + 1) env ≠ .bad:=by rw [e1]; rcases e2 with ⟨e,rfl,_⟩ | ⟨d,rfl,_⟩ <;> (intro z; cases z)
  unfold rSeq
  rw [ZcR hne,e1]
  rcases e2 with ⟨e,rfl,h⟩ | ⟨d,rfl,h⟩
  . exact h
  . exact h
end
end PD
namespace G
open PySem PySem.Spec PyProof.Rows L2 PD
inductive Kd where | and | or | xor deriving DecidableEq
noncomputable def Kd.s:Kd -> Str | .and => "and" | .or => "or" | .xor => "xor"
inductive Row where | fix (b:Int) | not (a:Int) | bin (k:Kd) (a b:Int)
noncomputable def Row.d:Row -> D
  | .fix b=>.tup [.str "fix",.int b]
  | .not a=>.tup [.str "not",.int a]
  | .bin k a b=>.tup [.str k.s,.int a,.int b]
inductive Flt where | none | wire (w b:Int) | leg (w l b:Int)
noncomputable def Flt.d:Flt -> D
  | .none=>.non
  | .wire w b=>.tup [.str "wire",.int w,.int b]
  | .leg w l b=>.tup [.str "leg",.int w,.int l,.int b]
theorem s_wl:((Str.ofString "wire") == (Str.ofString "leg"))=false:=by decide +kernel
theorem s_lw:((Str.ofString "leg") == (Str.ofString "wire"))=false:=by decide +kernel
theorem s_ww:((Str.ofString "wire") == (Str.ofString "wire"))=true:=by decide +kernel
theorem s_ff:((Str.ofString "fix") == (Str.ofString "fix"))=true:=by decide +kernel
theorem s_nf:((Str.ofString "not") == (Str.ofString "fix"))=false:=by decide +kernel
theorem s_kf (k:Kd):(k.s == (Str.ofString "fix"))=false:=by cases k <;> decide +kernel
theorem s_kn (k:Kd):(k.s == (Str.ofString "not"))=false:=by cases k <;> decide +kernel
theorem s_nn:((Str.ofString "not") == (Str.ofString "not"))=true:=by decide +kernel
theorem s_ka (k:Kd):(k.s == (Str.ofString "and"))=decide (k=.and):=by cases k <;> decide +kernel
theorem s_ko (k:Kd):(k.s == (Str.ofString "or"))=decide (k=.or):=by cases k <;> decide +kernel
theorem s_ll:((Str.ofString "leg") == (Str.ofString "leg"))=true:=by decide +kernel
theorem Z8K (r:Row):flat r.d=true:=by cases r <;> rfl
theorem Z96 (f:Flt):flat f.d=true:=by cases f <;> rfl
theorem Z5n (rows:List Row):Z1m (rows.map Row.d)=true:=Z37 fun d hd=>by
  obtain ⟨r,_,rfl⟩:=List.mem_map.mp hd
  exact Z8K r
noncomputable def Z0y (v w o:Int):Flt -> Int
  | .wire w' b=>if w'=w then o * b else v
  | _=>v
noncomputable def Row.ws:Row -> List Int
  | .fix _=>[]
  | .not a=>[a]
  | .bin _ a b=>[a,b]
noncomputable def legs (r:Row) (w:Int) (vs:List Int) (o:Int) (f:Flt):List Int:=match f with
  | .leg w' l b=>if w'=w then (r.ws.map (nth vs)).set l.toNat (o * b) else r.ws.map (nth vs)
  | _=>r.ws.map (nth vs)
noncomputable def gate (r:Row) (ls:List Int) (o:Int):Int:=match r with
  | .fix b=>o * b
  | .not _=>Builtin.bitXor o (nth ls 0)
  | .bin .and _ _=>Builtin.bitAnd (nth ls 0) (nth ls 1)
  | .bin .or _ _=>Builtin.bitOr (nth ls 0) (nth ls 1)
  | .bin .xor _ _=>Builtin.bitXor (nth ls 0) (nth ls 1)
noncomputable def circ (C:Addr) (ins:Int) (rows:List Row) (outs:List Int):D:=.obj C ["ins","rows","outs"] [.int ins,.lst (rows.map Row.d),LI outs]
theorem Z2e {C:Addr} {ins:Int} {rows:List Row} {outs:List Int} {fa:En -> Option D} {env:En} (h:fa env=some (circ C ins rows outs)):fFld C "rows" fa env=some (.lst (rows.map Row.d)):=by
  have h1:(Str.ofString "rows" == Str.ofString "ins")=false:=by decide +kernel
  simp [fFld,h,circ,List.lookup_cons,h1]
theorem Z3k {C:Addr} {ins:Int} {rows:List Row} {outs:List Int} {fa:En -> Option D} {env:En} (h:fa env=some (circ C ins rows outs)):fFld C "ins" fa env=some (.int ins):=by
  simp [fFld,h,circ,List.lookup_cons]
theorem Z3Z {C:Addr} {ins:Int} {rows:List Row} {outs:List Int} {fa:En -> Option D} {env:En} (h:fa env=some (circ C ins rows outs)):fFld C "outs" fa env=some (LI outs):=by
  have h1:(Str.ofString "outs" == Str.ofString "ins")=false:=by decide +kernel
  have h2:(Str.ofString "outs" == Str.ofString "rows")=false:=by decide +kernel
  simp [fFld,h,circ,List.lookup_cons,h1,h2]
noncomputable def Z0H (o:Int) (f:Flt):List Int -> List Int -> List Int
  | vs,[]=>vs
  | vs,s :: r=>Z0H o f (vs ++ [Z0y s vs.length o f]) r
noncomputable def Z2g (o:Int) (f:Flt):List Int -> List Row -> List Int
  | vs,[]=>vs
  | vs,r :: rs=>Z2g o f (vs ++ [Z0y (gate r (legs r vs.length vs o f) o) vs.length o f]) rs
theorem Z2j (o:Int) (f:Flt):∀ (ss vs:List Int),(Z0H o f vs ss).length=vs.length + ss.length
  | [],vs=>by simp [Z0H]
  | s :: r,vs=>by simp only [Z0H]; rw [Z2j o f r]; simp; omega
theorem Z5o (o:Int) (f:Flt):∀ (rs:List Row) (vs:List Int),(Z2g o f vs rs).length=vs.length + rs.length
  | [],vs=>by simp [Z2g]
  | r :: rs,vs=>by simp only [Z2g]; rw [Z5o o f rs]; simp; omega
theorem Z3A (o:Int) (f:Flt):∀ (ss vs:List Int) (s:Int),Z0H o f vs (ss ++ [s])=Z0H o f vs ss ++ [Z0y s (Z0H o f vs ss).length o f]
  | [],vs,s=>by simp [Z0H]
  | a :: ss,vs,s=>by simp only [List.cons_append,Z0H]; rw [Z3A o f ss]
theorem Z3R (o:Int) (f:Flt):∀ (rs:List Row) (vs:List Int) (r:Row),Z2g o f vs (rs ++ [r])=Z2g o f vs rs ++ [Z0y (gate r (legs r (Z2g o f vs rs).length (Z2g o f vs rs) o f) o) (Z2g o f vs rs).length o f]
  | [],vs,s=>by simp [Z2g]
  | a :: ss,vs,s=>by simp only [List.cons_append,Z2g]; rw [Z3R o f ss]
noncomputable def RowOk (n:Int):Row -> Prop
  | .fix b=>b=0 \/ b=1
  | .not a=>0 <= a /\ a < n
  | .bin _ a b=>(0 <= a /\ a < n) /\ 0 <= b /\ b < n
theorem RowOk.ws {n:Int} {r:Row} (h:RowOk n r):∀ a ∈ r.ws,0 <= a /\ a < n:=by
  cases r with
  | fix b=>intro a ha; cases ha
  | not a=>intro b hb; simp [Row.ws] at hb; subst hb; exact h
  | bin k a b=>intro c hc; simp [Row.ws] at hc; exact hc.elim (fun z=>z ▸ h.1) (fun z=>z ▸ h.2)
noncomputable def RowsOk (ins:Nat) (rows:List Row):Prop:=∀ k r,rows[k]? = some r -> RowOk ((ins + k:Nat):Int) r
structure FltOk (ins:Nat) (rows:List Row) (f:Flt):Prop where
  w:∀ w b,f=.wire w b -> b=0 \/ b=1
  l:∀ w l b,f=.leg w l b -> b=0 \/ b=1
  leg:∀ w l b k r,f=.leg w l b -> rows[k]? = some r -> w=((ins + k:Nat):Int) -> 0 <= l /\ l < r.ws.length
theorem FltOk.no {ins:Nat} {rows:List Row}:FltOk ins rows .none:=⟨fun _ _ z=>(by cases z),fun _ _ _ z=>(by cases z),fun _ _ _ _ _ z=>(by cases z)⟩
theorem Z6T (r:Row) (w:Int) (vs:List Int) (o:Int) (f:Flt):(legs r w vs o f).length=r.ws.length:=by
  unfold legs
  split
  . split <;> simp
  . simp
theorem Z8x {o b:Int} (h:b=0 \/ b=1):IntMulOk o b:=by rcases h with z | z <;> (subst z; exact Z8g (by decide) (by decide))
noncomputable def Z2N (n:Nat) (g:Int):List Int:=(List.range n).map fun k=>(g / 2 ^ k) % 2
noncomputable def Z8w (ins:Nat) (rows:List Row) (g:Int) (f:Flt):List Int:=Z2g 1 f (Z0H 1 f [] (Z2N ins g)) rows
noncomputable def Z3s (o:Int) (f:Flt) (ss:List Int) (rows:List Row):List Int:=Z2g o f (Z0H o f [] ss) rows
theorem Z4j (o:Int) (f:Flt) (ss:List Int) (rows:List Row):(Z3s o f ss rows).length=ss.length + rows.length:=by
  unfold Z3s; rw [Z5o,Z2j]; simp
theorem Z4H (o:Int) (f:Flt):∀ (rs:List Row) (vs:List Int) (k:Nat),k <= rs.length -> (Z2g o f vs rs).take (vs.length + k)=Z2g o f vs (rs.take k)
  | [],vs,k,h=>by
    have:k=0:=by simpa using h
    subst this
    simp [Z2g]
  | r :: rs,vs,0,h=>by
    have ih:=Z4H o f rs (vs ++ [Z0y (gate r (legs r vs.length vs o f) o) vs.length o f]) 0 (Nat.zero_le _)
    simp only [Z2g,List.take_zero,Nat.add_zero] at ih ⊢
    have e:(Z2g o f (vs ++ [Z0y (gate r (legs r vs.length vs o f) o) vs.length o f]) rs).take vs.length=((Z2g o f (vs ++ [Z0y (gate r (legs r vs.length vs o f) o) vs.length o f]) rs).take (vs ++ [Z0y (gate r (legs r vs.length vs o f) o) vs.length o f]).length).take vs.length:=by
      rw [List.take_take]; congr 1; simp
    rw [e,ih]
    simp
  | r :: rs,vs,k + 1,h=>by
    have ih:=Z4H o f rs (vs ++ [Z0y (gate r (legs r vs.length vs o f) o) vs.length o f]) k (by simpa using h)
    simp only [Z2g,List.take_succ_cons]
    rw [<- ih]
    congr 1
    simp; omega
theorem Z3z (o:Int) (f:Flt):∀ (ss vs:List Int) (k:Nat),k <= ss.length -> (Z0H o f vs ss).take (vs.length + k)=Z0H o f vs (ss.take k)
  | [],vs,k,h=>by
    have:k=0:=by simpa using h
    subst this
    simp [Z0H]
  | s :: ss,vs,0,h=>by
    have ih:=Z3z o f ss (vs ++ [Z0y s vs.length o f]) 0 (Nat.zero_le _)
    simp only [Z0H,List.take_zero,Nat.add_zero] at ih ⊢
    have e:(Z0H o f (vs ++ [Z0y s vs.length o f]) ss).take vs.length=((Z0H o f (vs ++ [Z0y s vs.length o f]) ss).take (vs ++ [Z0y s vs.length o f]).length).take vs.length:=by
      rw [List.take_take]; congr 1; simp
    rw [e,ih]
    simp
  | s :: ss,vs,k + 1,h=>by
    have ih:=Z3z o f ss (vs ++ [Z0y s vs.length o f]) k (by simpa using h)
    simp only [Z0H,List.take_succ_cons]
    rw [<- ih]
    congr 1
    simp; omega
theorem Z2X {o:Int} {f:Flt} {ss:List Int} {rows:List Row} {k:Nat} (h:k <= rows.length):(Z3s o f ss rows).take (ss.length + k)=Z3s o f ss (rows.take k):=by
  have:=Z4H o f rows (Z0H o f [] ss) k h
  rw [Z2j] at this
  simpa [Z3s] using this
theorem Z6x {o:Int} {f:Flt} {ss:List Int} {rows:List Row} {k:Nat} (h:k <= ss.length):(Z3s o f ss rows).take k=Z0H o f [] (ss.take k):=by
  have h1:=Z2X (o:=o) (f:=f) (ss:=ss) (rows:=rows) (k:=0) (Nat.zero_le _)
  have e:(Z3s o f ss rows).take k=((Z3s o f ss rows).take (ss.length + 0)).take k:=by rw [List.take_take]; congr 1; omega
  have h2:=Z3z o f ss [] k h
  rw [e,h1]
  simpa [Z3s,Z2g] using h2
theorem Z7g {α:Type} {l a:List α} {x:α} {i:Nat} (h:l.take (i + 1)=a ++ [x]) (hl:i < l.length):l.take i=a /\ l[i]? = some x:=by
  have h1:l.take (i + 1)=l.take i ++ [l[i]]:=by rw [List.take_succ,List.getElem?_eq_getElem hl]; rfl
  rw [h1] at h
  obtain ⟨h2,h3⟩:=List.append_inj' h rfl
  refine ⟨h2,?_⟩
  rw [List.getElem?_eq_getElem hl]
  simpa using h3
theorem Z6y {o:Int} {f:Flt} {ss:List Int} {rows:List Row} {i:Nat} {s:Int} (h:ss[i]? = some s):(Z3s o f ss rows)[i]? = some (Z0y s i o f):=by
  have hi:i < ss.length:=(List.getElem?_eq_some_iff.mp h).1
  have h1:=Z6x (o:=o) (f:=f) (rows:=rows) (show i + 1 <= ss.length from hi)
  rw [Z0v h,Z3A,Z2j] at h1
  have h2:=(Z7g h1 (by rw [Z4j]; omega)).2
  rw [h2]
  congr 2
  simp; omega
theorem Z5l {o:Int} {f:Flt} {ss:List Int} {rows:List Row} {k:Nat} {r:Row} (h:rows[k]? = some r) :
    (Z3s o f ss rows)[ss.length + k]? = some (Z0y (gate r (legs r ((ss.length + k:Nat):Int) ((Z3s o f ss rows).take (ss.length + k)) o f) o) ((ss.length + k:Nat):Int) o f):=by
  have hk:k < rows.length:=(List.getElem?_eq_some_iff.mp h).1
  have h1:=Z2X (o:=o) (f:=f) (ss:=ss) (show k + 1 <= rows.length from hk)
  have h0:=Z2X (o:=o) (f:=f) (ss:=ss) (show k <= rows.length from Nat.le_of_lt hk)
  have hl:(Z3s o f ss (rows.take k)).length=ss.length + k:=by rw [Z4j]; simp; omega
  rw [Z0v h] at h1
  unfold Z3s at h1 h0 hl
  rw [Z3R,hl] at h1
  have h2:=(Z7g (l:=Z3s o f ss rows) (i:=ss.length + k) (by rw [<- h1]; rfl) (by rw [Z4j]; omega)).2
  rw [h2]
  show _=some (Z0y (gate r (legs r _ ((Z2g o f (Z0H o f [] ss) rows).take (ss.length + k)) o f) o) _ o f)
  rw [h0]
noncomputable def Bt (x:Int):Prop:=x=0 \/ x=1
instance (x:Int):Decidable (Bt x):=inferInstanceAs (Decidable (x=0 \/ x=1))
theorem Zem {x:Int} (h:Bt x):Builtin.bitXor 1 x=1 - x:=by rcases h with z | z <;> (subst z; decide)
theorem Z9R {x:Int} (h:Bt x):Bt (Builtin.bitXor 1 x):=by rw [Zem h]; rcases h with z | z <;> (subst z; decide)
theorem Zbz {x y:Int} (h:Bt x) (k:Bt y):Bt (Builtin.bitAnd x y):=by rcases h with z | z <;> rcases k with w | w <;> (subst z; subst w; decide)
theorem ZcE {x y:Int} (h:Bt x) (k:Bt y):Bt (Builtin.bitOr x y):=by rcases h with z | z <;> rcases k with w | w <;> (subst z; subst w; decide)
theorem Zby {x y:Int} (h:Bt x) (k:Bt y):Bt (Builtin.bitXor x y):=by rcases h with z | z <;> rcases k with w | w <;> (subst z; subst w; decide)
theorem Z1A {vs:List Int} {a:Int} {i:Nat} {x:Int} (h:vs[i]? = some x) (e:a=(i:Int)):nth vs a=x:=by
  subst e
  simp [nth,List.getD,h]
theorem Z4t {vs:List Int} (h:∀ x ∈ vs,Bt x) (a:Int):Bt (nth vs a):=by
  unfold nth
  cases e:vs[a.toNat]? with
  | none=>left; simp [List.getD,e]
  | some x=>rw [List.getD,e]; exact h x (List.mem_of_getElem? e)
theorem ZaV {r:Row} {w:Int} {vs:List Int} {f:Flt} (h:∀ x ∈ vs,Bt x) (hf:∀ w l b,f=.leg w l b -> b=0 \/ b=1):∀ x ∈ legs r w vs 1 f,Bt x:=by
  have h0:∀ x ∈ r.ws.map (nth vs),Bt x:=fun x hx=>by
    obtain ⟨a,_,rfl⟩:=List.mem_map.mp hx
    exact Z4t h a
  intro x hx
  unfold legs at hx
  split at hx
  . rename_i w' l b
    split at hx
    . rcases List.mem_or_eq_of_mem_set hx with z | z
      . exact h0 x z
      . rw [z,Int.one_mul]; exact hf _ _ _ rfl
    . exact h0 x hx
  . exact h0 x hx
theorem Zed {r:Row} {ls:List Int} {n:Int} (h:∀ x ∈ ls,Bt x) (hr:RowOk n r):Bt (gate r ls 1):=by
  cases r with
  | fix b=>show Bt (1 * b); rw [Int.one_mul]; exact hr
  | not a=>exact Z9R (Z4t h 0)
  | bin k a b=>cases k with
    | and=>exact Zbz (Z4t h 0) (Z4t h 1)
    | or=>exact ZcE (Z4t h 0) (Z4t h 1)
    | xor=>exact Zby (Z4t h 0) (Z4t h 1)
theorem Z7t {v w:Int} {f:Flt} (h:Bt v) (hf:∀ w b,f=.wire w b -> b=0 \/ b=1):Bt (Z0y v w 1 f):=by
  unfold Z0y
  split
  . split
    . rw [Int.one_mul]; exact hf _ _ rfl
    . exact h
  . exact h
theorem Z68 {f:Flt} (hf:∀ w b,f=.wire w b -> b=0 \/ b=1):∀ (ss vs:List Int),(∀ x ∈ vs,Bt x) -> (∀ x ∈ ss,Bt x) -> ∀ x ∈ Z0H 1 f vs ss,Bt x
  | [],vs,h,_=>h
  | s :: ss,vs,h,hs=>by
    simp only [Z0H]
    refine Z68 hf ss _ (fun x hx=>?_) fun x hx=>hs x (List.mem_cons_of_mem _ hx)
    rcases List.mem_append.mp hx with z | z
    . exact h x z
    . have:x=Z0y s vs.length 1 f:=by simpa using z
      rw [this]; exact Z7t (hs s List.mem_cons_self) hf
theorem Z8J {f:Flt} (hf:∀ w b,f=.wire w b -> b=0 \/ b=1) (hl:∀ w l b,f=.leg w l b -> b=0 \/ b=1):∀ (rs:List Row) (vs:List Int),(∀ x ∈ vs,Bt x) -> (∀ r ∈ rs,∃ n,RowOk n r) -> ∀ x ∈ Z2g 1 f vs rs,Bt x
  | [],vs,h,_=>h
  | r :: rs,vs,h,hs=>by
    simp only [Z2g]
    refine Z8J hf hl rs _ (fun x hx=>?_) fun x hx=>hs x (List.mem_cons_of_mem _ hx)
    rcases List.mem_append.mp hx with z | z
    . exact h x z
    . have:x=Z0y (gate r (legs r vs.length vs 1 f) 1) vs.length 1 f:=by simpa using z
      obtain ⟨n,hn⟩:=hs r List.mem_cons_self
      rw [this]; exact Z7t (Zed (ZaV h hl) hn) hf
theorem Z7I (n:Nat) (g:Int):∀ x ∈ Z2N n g,Bt x:=fun x hx=>by
  obtain ⟨k,_,rfl⟩:=List.mem_map.mp hx
  have h0:=Int.emod_nonneg (g / 2 ^ k) (show (2:Int) ≠ 0 by decide)
  have h1:=Int.emod_lt_of_pos (g / 2 ^ k) (show (0:Int) < 2 by decide)
  show _ \/ _
  omega
theorem ZcJ {ins:Nat} {rows:List Row} {g:Int} {f:Flt} (hr:RowsOk ins rows) (hf:FltOk ins rows f):∀ x ∈ Z8w ins rows g f,Bt x:=by
  refine Z8J hf.w hf.l rows _ (Z68 hf.w _ _ (fun x hx=>(by cases hx)) (Z7I ins g)) fun r hr'=>?_
  obtain ⟨k,hk⟩:=List.getElem?_of_mem hr'
  exact ⟨_,hr k r hk⟩
theorem ZcI {ins:Nat} {rows:List Row} {g:Int} {f:Flt} {i:Nat} (h:i < ins):(Z8w ins rows g f)[i]? = some (Z0y (g / 2 ^ i % 2) i 1 f) :=
  Z6y (ss:=Z2N ins g) (by simp [Z2N,h])
theorem ZbD {ins:Nat} {rows:List Row} {g:Int} {f:Flt} {k:Nat} {r:Row} (h:rows[k]? = some r) :
    (Z8w ins rows g f)[ins + k]? = some (Z0y (gate r (legs r ((ins + k:Nat):Int) ((Z8w ins rows g f).take (ins + k)) 1 f) 1) ((ins + k:Nat):Int) 1 f):=by
  have:=Z5l (o:=1) (f:=f) (ss:=Z2N ins g) h
  have gl:(Z2N ins g).length=ins:=by simp [Z2N]
  rw [gl] at this
  exact this
theorem ZcB (n:Nat) (xs:List Int):eqN (n + 2) (LI xs) (LI xs)=some true:=by
  unfold LI
  rw [Zeh,if_pos rfl]
  refine Z98 fun d hd=>?_
  obtain ⟨i,_,rfl⟩:=List.mem_map.mp hd
  rw [eqN_int]; simp
end G
namespace PD
open PySem PySem.Spec PyProof.Rows L2
section
variable {prog:Program} {w:World} {A:Around} {E:Value -> Shared -> Prop} {s:Shared} {b l:Addr}
end
section
variable {X:Cx} {m m1:Bool} {rs rs1:List Nat} {a e:Expr} {fa:En -> Option D} {pos pos2 p p2:Pos}
end
section
variable {prog:Program} {w:World} {K:Type} [DecidableEq K] {knd:HeapKind prog w K} {A:Around} {E:Value -> Shared -> Prop} {s:Shared}
end
section
variable {X:Cx}
end
section
variable {X:Cx} {m2:Bool} {rs2:List Nat} {fk:En -> Option D} {pos:Pos} {i j:Nat} {call:Expr}
end
noncomputable def VEnts (h:Heap) (d:Addr) (es:Array DictEntry) (ep:Nat):Prop:=∃ o,h.get? d=some o /\ o.ExactDict /\ o.data=.dict es ep
theorem VEnts.keep {h h':Heap} {d:Addr} {es:Array DictEntry} {ep:Nat} (x:VEnts h d es ep) (k:∀ o,h.get? d=some o -> h'.get? d=some o):VEnts h' d es ep:=by
  obtain ⟨o,e,r⟩:=x
  exact ⟨o,k o e,r⟩
theorem VEnts.lt {h:Heap} {d:Addr} {es:Array DictEntry} {ep:Nat} (x:VEnts h d es ep):d < h.objs.size:=by
  obtain ⟨o,e,_⟩:=x
  exact Heap.lt_size e
theorem VEnts.ty {s:Shared} {d:Addr} {es:Array DictEntry} {ep:Nat} (x:VEnts s.heap d es ep):s.TypeIs (.ref d) "dict":=by
  obtain ⟨o,e,c,_⟩:=x
  exact ⟨o,e,c.1⟩
section
variable {prog:Program} {w:World} {A:Around} {E:Value -> Shared -> Prop} {s:Shared} {d v I:Addr} {es:Array DictEntry} {ep:Nat}
end
section
variable {X:Cx} {o:Expr} {to:TE} {pos cpos apos p p2:Pos}
end
section
variable {X:Cx} {m2:Bool} {rs2:List Nat} {fk:En -> Option D} {a:Expr} {x y:Str} {pos p py pt pl apos cpos apos2 cpos2 cpt:Pos}
end
theorem EnvS.drop {K:Frag} {P H:Hp} {σ:L2.St} {env:En} {F:Nat -> List Addr} (j:Nat) (hF:EnvS K P H σ env F):EnvS K P H σ (env.set j none) F:=by
  have key:∀ {k:Nat} {s:Bool × D},(env.set j none)[k]? = some (some s) -> env[k]? = some (some s):=fun {k s} e=>by
    by_cases hk:j=k
    . subst hk
      by_cases hj:j < env.length
      . rw [List.getElem?_set_self hj] at e; cases e
      . rw [List.getElem?_eq_none (by simp; omega)] at e; cases e
    . rwa [List.getElem?_set_ne hk] at e
  refine ⟨fun k o d e=>hF.ok k o d (key e),fun k d e=>?_⟩
  obtain ⟨a1,a2,a3,a4⟩:=hF.own k d (key e)
  exact ⟨a1,a2,a3,fun l s hl es=>a4 l s hl (key es)⟩
theorem SInv.drop {K:Frag} {P H:Hp} {σ:L2.St} {env:En} (j:Nat) (h:SInv K P H σ env):SInv K P H σ (env.set j none) :=
  ⟨h.same,by rw [List.length_set]; exact h.len,h.ex.imp fun _ hF=>hF.drop j⟩
theorem SInv.put {K:Frag} {P H:Hp} {σ:L2.St} {env:En} (j:Nat) (x:Option V) (h:SInv K P H σ env) (hj:env[j]? = some none):SInv K P H (σ.set j x) env:=by
  obtain ⟨F,hF⟩:=h.ex
  have key:∀ {k:Nat} {s:Bool × D},env[k]? = some (some s) -> j ≠ k:=fun e z=>by rw [z,e] at hj; cases hj
  refine ⟨h.same,by rw [List.length_set]; exact h.len,F,fun k o d e=>?_,fun k d e=>?_⟩
  . obtain ⟨v,hv,r⟩:=hF.ok k o d e
    exact ⟨v,by rw [List.getElem?_set_ne (key e)]; exact hv,r⟩
  . obtain ⟨a1,a2,a3,a4⟩:=hF.own k d e
    exact ⟨a1,a2,fun v hv=>a3 v (by rwa [List.getElem?_set_ne (key e)] at hv),a4⟩
open Classical in
section
variable {X:Cx} {i j:Nat} {x y:Str} {d:D} {v0:V} {e:Expr} {pos py p px apos cpos epos:Pos}
end
section
variable {X:Cx} {m m' m1 m2:Bool} {rs rs' rs1 rs2:List Nat} {e a b c:Expr} {f fa fb:En -> Option D} {pos p p2 p3 pos':Pos}
end
section
variable {X:Cx} {s g t f:Nat} {sts:List Stmt}
end
section
variable {X:Cx} {m m' m1 m2:Bool} {rs rs' rs1 rs2:List Nat} {e a b c:Expr} {f fa fb:En -> Option D} {pos p p2 p3 pos':Pos}
end
section
variable {X:Cx}
variable {m1 m2:Bool} {rs1 rs2:List Nat} {fk fv:En -> Option D} {call:Expr} {pos:Pos} {i:Nat}
end
section
variable {X:Cx} {pins:List (Addr × Obj)} {σ:L2.St} {H:Hp} {s:Shared} {d:Addr} {kvs:List (Key × V)} {o:Obj}
end
mutual
theorem Rep.keepF {K:Frag} {st:Bool} {H H':Hp} (ht:∀ a xs,SqT K H a xs -> SqT K H' a xs):∀ (d:D) (v:V) (fp:List Addr),flat d=true -> Rep K st H d v fp -> Rep K st H' d v fp
  | .non,v,fp,_,h=>by simpa only [Rep] using h
  | .bl _,v,fp,_,h=>by simpa only [Rep] using h
  | .int _,v,fp,_,h=>by simpa only [Rep] using h
  | .str _,v,fp,_,h=>by simpa only [Rep] using h
  | .tup ds,v,fp,f,h=>by
    simp only [Rep] at h ⊢
    obtain ⟨a,vs,e,hs,hr⟩:=h
    exact ⟨a,vs,e,ht _ _ hs,Reps.keepF ht ds vs fp (by simpa only [PD.flat] using f) hr⟩
  | .lst _,v,fp,f,h=>by simp only [PD.flat] at f; cases f
  | .obj _ _ _,v,fp,f,h=>by simp only [PD.flat] at f; cases f
  | .dk _ _,v,fp,f,h=>by simp only [PD.flat] at f; cases f
  | .dt _ _,v,fp,f,h=>by simp only [PD.flat] at f; cases f
  | .exc _,v,fp,f,h=>by simp only [PD.flat] at f; cases f
theorem Reps.keepF {K:Frag} {st:Bool} {H H':Hp} (ht:∀ a xs,SqT K H a xs -> SqT K H' a xs):∀ (ds:List D) (vs:List V) (fp:List Addr),Z1m ds=true -> Reps K st H ds vs fp -> Reps K st H' ds vs fp
  | [],vs,fp,_,h=>by simpa only [Reps] using h
  | d :: ds,vs,fp,f,h=>by
    simp only [Reps] at h ⊢
    simp only [Z1m,Bool.and_eq_true] at f
    obtain ⟨v,r,f1,f2,e1,e2,h1,h2⟩:=h
    exact ⟨v,r,f1,f2,e1,e2,Rep.keepF ht d v f1 f.1 h1,Reps.keepF ht ds r f2 f.2 h2⟩
end
section
variable {X:Cx} {rs:List Nat} {elt:Expr} {ifs:List Expr} {scope:Scope} {fr:List Nat} {fc:En -> Option Bool} {fe:En -> Option D} {pos px p:Pos} {i:Nat} {x y:Str}
end
section
variable {X:Cx} {m m1 m2:Bool} {rs rs1 rs2:List Nat} {o e:Expr} {fo fe:En -> Option D} {apos cpos:Pos}
end
noncomputable def vD:V -> D
  | .int i=>.int i
  | _=>.non
noncomputable def Z9Q (kis:List (Key × Int)):List (Key × V):=Z4Z [] (kis.map fun p=>(p.1,V.int p.2))
noncomputable def Zbn (fp:En -> Option (List (Key × Int))):En -> Option D:=fun env=>match fp env with
  | some kis=>if kis.length <= 15 then some (.dk ((Z9Q kis).map (·.1)) ((Z9Q kis).map fun p=>vD p.2)) else none
  | none=>none
noncomputable def Z6X (fk fv:En -> Option D) (fr:En -> Option (List (Key × Int))):En -> Option (List (Key × Int)):=fun env=>match fk env,fv env,fr env with
  | some d,some (.int i),some r=>match keyOf d with
    | some k=>some ((k,i) :: r)
    | none=>none
  | _,_,_=>none
noncomputable def Z7P:En -> Option (List (Key × Int)):=fun _=>some []
theorem Zax:∀ {kvs:List (Key × V)} {k:Key} {i:Int},(∀ p ∈ kvs,∃ j,p.2=.int j) -> ∀ p ∈ putK kvs k (.int i),∃ j,p.2=V.int j:=by
  intro kvs k i h p hp
  unfold putK at hp
  split at hp
  . obtain ⟨q,hq,rfl⟩:=List.mem_map.mp hp
    split
    . exact ⟨i,rfl⟩
    . exact h q hq
  . rcases List.mem_append.mp hp with z | z
    . exact h p z
    . rw [List.mem_singleton.mp z]; exact ⟨i,rfl⟩
theorem Z6i:∀ (kis:List (Key × Int)) {kvs:List (Key × V)},(∀ p ∈ kvs,∃ j,p.2=.int j) -> ∀ p ∈ Z4Z kvs (kis.map fun p=>(p.1,V.int p.2)),∃ j,p.2=V.int j
  | [],kvs,h,p,hp=>h p hp
  | q :: r,kvs,h,p,hp=>Z6i r (kvs:=putK kvs q.1 (.int q.2)) (Zax h) p hp
theorem Z76:∀ (l:List (Key × V)),(l.map (·.1)).zip (l.map (·.2))=l
  | []=>rfl
  | p :: r=>by rw [List.map_cons,List.map_cons,List.zip_cons_cons,Z76 r]
theorem Zaf {K:Frag} {st:Bool} {H:Hp}:∀ (l:List (Key × V)),(∀ p ∈ l,∃ j,p.2=.int j) -> Reps K st H (l.map fun p=>vD p.2) (l.map (·.2)) []
  | [],_=>by simp only [List.map_nil,Reps]; exact ⟨trivial,trivial⟩
  | p :: r,h=>by
    obtain ⟨j,hj⟩:=h p List.mem_cons_self
    simp only [List.map_cons,Reps]
    exact ⟨p.2,_,[],[],rfl,rfl,by rw [hj]; exact Z2z,Zaf r fun q hq=>h q (List.mem_cons_of_mem _ hq)⟩
section
variable {X:Cx} {m m1 m2:Bool} {rs rs1 rs2:List Nat} {k v:Expr} {fk fv:En -> Option D} {pos:Pos} {ks:List (Option Expr)} {vs:List Expr} {fp fr:En -> Option (List (Key × Int))}
noncomputable def QPs (X:Cx) (pos:Pos) (keys:List (Option Expr)) (values:List Expr) (fp:En -> Option (List (Key × Int))):Prop :=
  ∃ trs,PPs X pos keys values trs /\ ∀ σ H Q env F kis,EnvOk X.K H σ env F -> fp env=some kis -> (∀ H',Same H H' -> Q (kis.map fun p=>(kV p.1,V.int p.2)) H') -> Z8F trs σ H Q
theorem Zdx:QPs X pos [] [] Z7P:=⟨[],ZdK,fun σ H Q env F kis ok e q=>by cases e; exact q H (Same.refl H)⟩
theorem Z8P (hk:QE X m1 rs1 k fk) (hv:QE X m2 rs2 v fv) (hr:QPs X pos ks vs fr):QPs X pos (some k :: ks) (v :: vs) (Z6X fk fv fr):=by
  obtain ⟨trs,hp,ht⟩:=hr
  refine ⟨_,Zc7 hk hv hp,fun σ H Q env F kis ok e q=>?_⟩
  unfold Z6X at e
  split at e
  . rename_i d i r e1 e2 e3
    split at e
    . rename_i kk hkk
      cases e
      refine ⟨env,F,d,ok,e1,fun x H1 fp1 s1 r1 c1=>?_⟩
      rw [Z4x hkk r1]
      refine ⟨env,F,.int i,ok.same s1,e2,fun y H2 fp2 s2 r2 c2=>?_⟩
      rw [Z0B r2]
      exact ht σ H2 _ env F r ((ok.same s1).same s2) e3 fun H3 s3=>q H3 ((s1.trans s2).trans s3)
    . cases e
  . cases e
theorem ZdA (h:QPs X pos ks vs fp) (hall:ks.all (·.isSome)=true:=by rfl) (hl:ks.length=vs.length:=by rfl) (h0:ks ≠ []:=by simp) (h15:ks.length <= 15:=by simp):QE X true [] (.Dict ks vs pos) (Zbn fp):=by
  obtain ⟨trs,hp,ht⟩:=h
  refine .mk (ZdS hp hall hl h0 h15) fun σ H Q ⟨env,F,d,ok,e,q⟩=>?_
  unfold Zbn at e
  split at e
  . rename_i kis hk
    split at e
    . rename_i h15'
      cases e
      intro p hp0
      refine ht σ _ _ env F kis (ok.same (Z0O hp0)) hk fun H2 s2=>⟨s2 _ _ Z0A,kis.map (fun p=>(p.1,V.int p.2)),by rw [List.map_map]; rfl,by rw [List.length_map]; exact h15',?_⟩
      have sm:Same H (upd H2 p (.dK (Z9Q kis))):=fun b o hb=>by
        have hne:b ≠ p:=Z0s hb hp0
        rw [Z0u hne]
        exact s2 _ _ (by rw [Z0u hne]; exact hb)
      refine q _ _ [p] sm ?_ ⟨fun b hb=>.inl ?_,fun _=>⟨by simp,fun b hb=>?_⟩⟩
      . simp only [Rep]
        refine ⟨p,(Z9Q kis).map (·.2),[],rfl,rfl,?_,by rw [List.length_map,List.length_map],Zaf _ (Z6i kis fun _ z=>by cases z)⟩
        rw [Z76]; exact Z0A
      . rw [List.mem_singleton.mp hb]; exact hp0
      . rw [List.mem_singleton.mp hb]; exact hp0
    . cases e
  . cases e
end
section
variable {X:Cx} {m m1:Bool} {rs rs1:List Nat} {a:Expr} {fa:En -> Option D} {pos:Pos}
end
end PD
namespace G
open PySem PySem.Spec PyProof.Rows L2 PD
theorem Z7r:∀ (n a b:Nat),a <= n -> a ||| b=(a ^^^ b) + (a &&& b)
  | n,0,b,_=>by simp
  | 0,a + 1,b,h=>by omega
  | n + 1,a + 1,b,h=>by
    have ih:=Z7r n ((a + 1) / 2) (b / 2) (by omega)
    have o:=congrArg (· = true) (Nat.testBit_or (a + 1) b 0)
    have x:=congrArg (· = true) (Nat.testBit_xor (a + 1) b 0)
    have d:=congrArg (· = true) (Nat.testBit_and (a + 1) b 0)
    simp only [Nat.testBit_zero,Bool.or_eq_true,Bool.and_eq_true,decide_eq_true_eq] at o x d
    rw [<- Nat.or_div_two,<- Nat.xor_div_two,<- Nat.and_div_two] at ih
    generalize a + 1=A at *
    generalize A ||| b=O at *
    generalize A ^^^ b=X at *
    generalize A &&& b=N at *
    have ho:O % 2=1 ↔ A % 2=1 \/ b % 2=1:=by rw [o]
    have hd:N % 2=1 ↔ A % 2=1 /\ b % 2=1:=by rw [d]
    have hx:X % 2=1 ↔ ¬ (A % 2=1 ↔ b % 2=1):=by
      rw [x]
      by_cases h1:A % 2=1 <;> by_cases h2:b % 2=1 <;> simp [h1,h2]
    by_cases h1:A % 2=1 <;> by_cases h2:b % 2=1 <;> simp only [h1,h2,or_self,or_true,true_or,and_self,and_true,true_and,and_false,false_and,iff_self,not_true,iff_true,iff_false,or_false,false_or,not_false_iff] at ho hd hx <;> omega
theorem Z9e (a:Nat):¬ (0:Int) <= Builtin.bitNot (a:Int):=by unfold Builtin.bitNot; omega
theorem ZcL (a:Int):Builtin.bitNot (Builtin.bitNot a)=a:=by unfold Builtin.bitNot; omega
theorem Z9f (a b:Nat):Builtin.bitAnd (a:Int) (b:Int)=((a &&& b:Nat):Int):=by
  simp [Builtin.bitAnd]
theorem ZbE (a b:Nat):Builtin.bitOr (a:Int) (b:Int)=((a ||| b:Nat):Int):=by
  unfold Builtin.bitOr Builtin.bitAnd
  rw [decide_eq_false (Z9e a),decide_eq_false (Z9e b)]
  simp only [ZcL,Int.toNat_natCast]
theorem ZcK (a b:Nat):Builtin.bitXor (a:Int) (b:Int)=((a ^^^ b:Nat):Int):=by
  unfold Builtin.bitXor
  rw [ZbE,Z9f,Z7r a a b (Nat.le_refl _)]
  omega
noncomputable def tabN:Nat -> (Nat -> Bool) -> Nat
  | 0,_=>0
  | n + 1,b=>tabN n b + (if b n then 2 ^ n else 0)
theorem Z2Y:∀ (n:Nat) (b:Nat -> Bool),tabN n b < 2 ^ n
  | 0,b=>by simp [tabN]
  | n + 1,b=>by
    have:=Z2Y n b
    simp only [tabN,Nat.pow_succ]
    split <;> omega
theorem Z10:∀ (n:Nat) (b:Nat -> Bool) (g:Nat),(tabN n b).testBit g=(decide (g < n) && b g)
  | 0,b,g=>by simp [tabN]
  | n + 1,b,g=>by
    have ih:=Z10 n b g
    have hlt:=Z2Y n b
    simp only [tabN]
    cases hb:b n with
    | true =>
      simp only [if_true]
      rw [Nat.add_comm]
      by_cases h1:g < n
      . rw [Nat.testBit_two_pow_add_gt h1,ih]; simp [h1,Nat.lt_succ_of_lt h1]
      . by_cases h2:g=n
        . subst h2
          rw [Nat.testBit_two_pow_add_eq,ih]; simp [hb]
        . rw [Nat.testBit_lt_two_pow]
          . simp [show ¬ g < n + 1 by omega]
          . have:2 ^ (n + 1) <= 2 ^ g:=Nat.pow_le_pow_right (by decide) (by omega)
            rw [Nat.pow_succ] at this; omega
    | false =>
      simp only [Bool.false_eq_true,if_false,Nat.add_zero]
      rw [ih]
      by_cases h2:g=n
      . subst h2; simp [hb]
      . by_cases h1:g < n
        . simp [h1,Nat.lt_succ_of_lt h1]
        . simp [h1,show ¬ g < n + 1 by omega]
theorem Z9m {n:Nat} {a b:Nat -> Bool} (h:∀ g,g < n -> a g=b g):tabN n a=tabN n b:=by
  apply Nat.eq_of_testBit_eq
  intro g
  rw [Z10,Z10]
  by_cases hg:g < n
  . simp [hg,h g hg]
  . simp [hg]
theorem Z4G {n x:Nat} {b:Nat -> Bool} (h1:x < 2 ^ n) (h:∀ g,g < n -> x.testBit g=b g):x=tabN n b:=by
  apply Nat.eq_of_testBit_eq
  intro g
  rw [Z10]
  by_cases hg:g < n
  . simp [hg,h g hg]
  . have:x < 2 ^ g:=Nat.lt_of_lt_of_le h1 (Nat.pow_le_pow_right (by decide) (by omega))
    rw [Nat.testBit_lt_two_pow this]; simp [hg]
noncomputable def tab (n:Nat) (b:Nat -> Bool):Int:=(tabN n b:Int)
theorem Z0j {n:Nat} {a b:Nat -> Bool} (h:∀ g,g < n -> a g=b g):tab n a=tab n b:=by unfold tab; rw [Z9m h]
theorem Z3a (n:Nat) (a b:Nat -> Bool):Builtin.bitAnd (tab n a) (tab n b)=tab n (fun g=>a g && b g):=by
  unfold tab
  rw [Z9f]
  congr 1
  refine Z4G (Nat.lt_of_le_of_lt Nat.and_le_left (Z2Y n a)) fun g hg=>?_
  rw [Nat.testBit_and,Z10,Z10]; simp [hg]
theorem Z3x (n:Nat) (a b:Nat -> Bool):Builtin.bitOr (tab n a) (tab n b)=tab n (fun g=>a g || b g):=by
  unfold tab
  rw [ZbE]
  congr 1
  refine Z4G (Nat.or_lt_two_pow (Z2Y n a) (Z2Y n b)) fun g hg=>?_
  rw [Nat.testBit_or,Z10,Z10]; simp [hg]
theorem Z2J (n:Nat) (a b:Nat -> Bool):Builtin.bitXor (tab n a) (tab n b)=tab n (fun g=>a g ^^ b g):=by
  unfold tab
  rw [ZcK]
  congr 1
  refine Z4G (Nat.xor_lt_two_pow (Z2Y n a) (Z2Y n b)) fun g hg=>?_
  rw [Nat.testBit_xor,Z10,Z10]; simp [hg]
theorem Za8 (n:Nat):tabN n (fun _=>true)=2 ^ n - 1:=by
  symm
  refine Z4G (by have:=Nat.two_pow_pos n; omega) fun g hg=>?_
  rw [Nat.testBit_two_pow_sub_one]; simp [hg]
theorem Z3y:∀ (n:Nat),tabN n (fun _=>false)=0
  | 0=>rfl
  | n + 1=>by simp [tabN,Z3y n]
noncomputable def Z09 (n:Nat):Int:=2 ^ n - 1
theorem Z4k (n:Nat):tab n (fun _=>true)=Z09 n:=by
  unfold tab Z09
  rw [Za8]
  have:=Nat.two_pow_pos n
  rw [Int.ofNat_sub (by omega)]
  simp
theorem Za7 (n:Nat) {b:Int} (h:b=0 \/ b=1):Z09 n * b=tab n (fun _=>decide (b=1)):=by
  rcases h with z | z
  . subst z
    have:(fun _:Nat=>decide ((0:Int)=1))=fun _=>false:=by funext; decide
    rw [this,Int.mul_zero]; unfold tab; rw [Z3y]; rfl
  . subst z
    have:(fun _:Nat=>decide ((1:Int)=1))=fun _=>true:=by funext; decide
    rw [this,Int.mul_one,Z4k]
theorem Z86 (n:Nat) (b:Nat -> Bool):Builtin.bitXor (Z09 n) (tab n b)=tab n (fun g=>!b g):=by
  rw [<- Z4k,Z2J]
  exact Z0j fun g _=>by simp
noncomputable def inT:Nat -> List Int
  | 0=>[]
  | k + 1=>(inT k).map (fun t=>Builtin.bitOr t (t * 2 ^ (2 ^ k))) ++ [Z09 (2 ^ k) * 2 ^ (2 ^ k)]
theorem Z2x:∀ n,(inT n).length=n
  | 0=>rfl
  | n + 1=>by simp [inT,Z2x n]
theorem Za6 (n:Nat) (b:Nat -> Bool):tab n b * 2 ^ n=tab (n + n) (fun g=>decide (n <= g) && b (g - n)):=by
  unfold tab
  have:((tabN n b:Nat):Int) * 2 ^ n=((tabN n b * 2 ^ n:Nat):Int):=by simp
  rw [this]
  congr 1
  refine Z4G ?_ fun g hg=>?_
  . rw [Nat.pow_add]; exact Nat.mul_lt_mul_of_pos_right (Z2Y n b) (Nat.two_pow_pos n)
  . rw [<- Nat.shiftLeft_eq,Nat.testBit_shiftLeft,Z10]
    by_cases h:n <= g
    . simp [h,show g - n < n by omega]
    . simp [h]
theorem ZbO (n m:Nat) (b:Nat -> Bool):tab n b=tab (n + m) (fun g=>decide (g < n) && b g):=by
  unfold tab
  congr 1
  refine Z4G ?_ fun g hg=>Z10 n b g
  exact Nat.lt_of_lt_of_le (Z2Y n b) (Nat.pow_le_pow_right (by decide) (by omega))
theorem Z4P:∀ (n i:Nat),i < n -> (inT n)[i]? = some (tab (2 ^ n) fun g=>decide (g / 2 ^ i % 2=1))
  | 0,i,h=>by omega
  | n + 1,i,h=>by
    have e2:2 ^ (n + 1)=2 ^ n + 2 ^ n:=by rw [Nat.pow_succ]; omega
    simp only [inT]
    by_cases hi:i < n
    . rw [List.getElem?_append_left (by simp [Z2x,hi]),List.getElem?_map,Z4P n i hi]
      simp only [Option.map_some]
      congr 1
      rw [Za6]
      rw [ZbO (2 ^ n) (2 ^ n),Z3x,e2]
      refine Z0j fun g hg=>?_
      by_cases h1:g < 2 ^ n
      . simp [h1,show ¬ 2 ^ n <= g by omega]
      . have h2:2 ^ n <= g:=by omega
        simp only [h1,h2,decide_false,decide_true,Bool.false_and,Bool.false_or,Bool.true_and]
        have h3:2 ^ n=2 ^ i * (2 * 2 ^ (n - i - 1)):=by rw [<- Nat.pow_succ',<- Nat.pow_add]; congr 1; omega
        have h4:g / 2 ^ i=(g - 2 ^ n) / 2 ^ i + 2 * 2 ^ (n - i - 1):=by
          have:g=(g - 2 ^ n) + 2 ^ i * (2 * 2 ^ (n - i - 1)):=by omega
          conv=>lhs; rw [this]
          rw [Nat.add_mul_div_left _ _ (Nat.two_pow_pos i)]
        rw [h4]
        congr 2
        omega
    . have hin:i=n:=by omega
      subst hin
      rw [List.getElem?_append_right (by simp [Z2x]),List.length_map,Z2x,Nat.sub_self]
      simp only [List.getElem?_cons_zero]
      congr 1
      rw [<- Z4k,Za6,e2]
      refine Z0j fun g hg=>?_
      by_cases h1:2 ^ i <= g
      . have:g / 2 ^ i=1:=by
          rw [Nat.div_eq_iff (Nat.two_pow_pos i)]; omega
        simp [h1,this]
      . have:g / 2 ^ i=0:=Nat.div_eq_of_lt (by omega)
        simp [h1,this]
theorem Zga {x y:Int} (h:Bt x) (k:Bt y):(decide (x=1) && decide (y=1))=decide (Builtin.bitAnd x y=1):=by rcases h with z | z <;> rcases k with w | w <;> (subst z; subst w; decide)
theorem d_or {x y:Int} (h:Bt x) (k:Bt y):(decide (x=1) || decide (y=1))=decide (Builtin.bitOr x y=1):=by rcases h with z | z <;> rcases k with w | w <;> (subst z; subst w; decide)
theorem Zg8 {x y:Int} (h:Bt x) (k:Bt y):(decide (x=1) ^^ decide (y=1))=decide (Builtin.bitXor x y=1):=by rcases h with z | z <;> rcases k with w | w <;> (subst z; subst w; decide)
theorem Zg9 {x:Int} (h:Bt x):(!decide (x=1))=decide (Builtin.bitXor 1 x=1):=by rcases h with z | z <;> (subst z; decide)
noncomputable def tb (n:Nat) (b:Nat -> Int):Int:=tab n fun g=>decide (b g=1)
theorem Z3P {n:Nat} {a b:Nat -> Int} (h:∀ g,g < n -> a g=b g):tb n a=tb n b:=Z0j fun g hg=>by rw [h g hg]
theorem Za5 (n:Nat) {b:Int} (h:b=0 \/ b=1):Z09 n * b=tb n fun _=>1 * b:=by
  rw [Za7 n h]
  exact Z0j fun g _=>by rw [Int.one_mul]
theorem Zey (n:Nat) {a b:Nat -> Int} (ha:∀ g,Bt (a g)) (hb:∀ g,Bt (b g)):Builtin.bitAnd (tb n a) (tb n b)=tb n fun g=>Builtin.bitAnd (a g) (b g):=by
  unfold tb; rw [Z3a]
  exact Z0j fun g _=>Zga (ha g) (hb g)
theorem Zft (n:Nat) {a b:Nat -> Int} (ha:∀ g,Bt (a g)) (hb:∀ g,Bt (b g)):Builtin.bitOr (tb n a) (tb n b)=tb n fun g=>Builtin.bitOr (a g) (b g):=by
  unfold tb; rw [Z3x]
  exact Z0j fun g _=>d_or (ha g) (hb g)
theorem Zew (n:Nat) {a b:Nat -> Int} (ha:∀ g,Bt (a g)) (hb:∀ g,Bt (b g)):Builtin.bitXor (tb n a) (tb n b)=tb n fun g=>Builtin.bitXor (a g) (b g):=by
  unfold tb; rw [Z2J]
  exact Z0j fun g _=>Zg8 (ha g) (hb g)
theorem Zex (n:Nat) {a:Nat -> Int} (ha:∀ g,Bt (a g)):Builtin.bitXor (Z09 n) (tb n a)=tb n fun g=>Builtin.bitXor 1 (a g):=by
  unfold tb; rw [Z86]
  exact Z0j fun g _=>Zg9 (ha g)
theorem Z7a {n:Nat} {v:Int} {b:Nat -> Int} {w:Int} {f:Flt} (h:v=tb n b) (hf:∀ w b,f=.wire w b -> b=0 \/ b=1):Z0y v w (Z09 n) f=tb n fun g=>Z0y (b g) w 1 f:=by
  cases f with
  | none=>exact h
  | leg _ _ _=>exact h
  | wire w' b' =>
    unfold Z0y
    by_cases hw:w'=w
    . simp only [hw,if_true]
      exact Za5 n (hf _ _ rfl)
    . simp only [hw,if_false]
      exact h
theorem Zdf {n:Nat} {r:Row} {w:Int} {V:List Int} {B:Nat -> List Int} {f:Flt} (h:∀ a ∈ r.ws,nth V a=tb n fun g=>nth (B g) a) (hb:∀ w l b,f=.leg w l b -> b=0 \/ b=1) :
    ∀ j:Nat,j < r.ws.length -> nth (legs r w V (Z09 n) f) j=tb n fun g=>nth (legs r w (B g) 1 f) j:=by
  have base:∀ j:Nat,j < r.ws.length -> nth (r.ws.map (nth V)) j=tb n fun g=>nth (r.ws.map (nth (B g))) j:=by
    intro j hj
    have e1:∀ L:List Int,nth (r.ws.map (nth L)) j=nth L (r.ws[j]):=fun L=>Z1A (i:=j) (by simp [hj]) rfl
    rw [e1 V,h _ (List.getElem_mem hj)]
    exact Z3P fun g _=>(e1 (B g)).symm
  intro j hj
  cases f with
  | none=>exact base j hj
  | wire _ _=>exact base j hj
  | leg w' l b =>
    unfold legs
    by_cases hw:w'=w
    . simp only [hw,if_true]
      by_cases hl:l.toNat=j
      . have e2:∀ (L:List Int) (x:Int),L.length=r.ws.length -> nth (L.set l.toNat x) j=x:=fun L x hL=>Z1A (i:=j) (by rw [hl,List.getElem?_set_self (by omega)]) rfl
        rw [e2 _ _ (by simp)]
        rw [Za5 n (hb _ _ _ rfl)]
        exact Z3P fun g _=>(e2 _ _ (by simp)).symm
      . have e3:∀ (L:List Int) (x:Int),nth (L.set l.toNat x) j=nth L j:=fun L x=>by
          unfold nth
          rw [Int.toNat_natCast,List.getD,List.getD,List.getElem?_set_ne hl]
        rw [e3,base j hj]
        exact Z3P fun g _=>(e3 _ _).symm
    . simp only [hw,if_false]
      exact base j hj
theorem Zdg {n:Nat} {r:Row} {L:List Int} {M:Nat -> List Int} {k:Int} (hr:RowOk k r) (h:∀ j:Nat,j < r.ws.length -> nth L j=tb n fun g=>nth (M g) j) (hM:∀ g,∀ x ∈ M g,Bt x):gate r L (Z09 n)=tb n fun g=>gate r (M g) 1:=by
  have bt:∀ j g,Bt (nth (M g) j):=fun j g=>Z4t (hM g) j
  cases r with
  | fix b=>exact Za5 n hr
  | not a =>
    have h0:=h 0 (by simp [Row.ws])
    show Builtin.bitXor (Z09 n) (nth L 0)=_
    rw [show nth L 0=nth L ((0:Nat):Int) from rfl,h0]
    exact Zex n fun g=>bt _ g
  | bin k a b =>
    have h0:nth L 0=tb n fun g=>nth (M g) 0:=h 0 (by simp [Row.ws])
    have h1:nth L 1=tb n fun g=>nth (M g) 1:=h 1 (by simp [Row.ws])
    cases k with
    | and =>
      show Builtin.bitAnd (nth L 0) (nth L 1)=_
      rw [h0,h1]
      exact Zey n (fun g=>bt _ g) fun g=>bt _ g
    | or =>
      show Builtin.bitOr (nth L 0) (nth L 1)=_
      rw [h0,h1]
      exact Zft n (fun g=>bt _ g) fun g=>bt _ g
    | xor =>
      show Builtin.bitXor (nth L 0) (nth L 1)=_
      rw [h0,h1]
      exact Zew n (fun g=>bt _ g) fun g=>bt _ g
noncomputable def Z03 (ins:Nat) (rows:List Row) (f:Flt):List Int:=Z3s (Z09 (2 ^ ins)) f (inT ins) rows
theorem Z0Z (ins:Nat) (rows:List Row) (f:Flt):(Z03 ins rows f).length=ins + rows.length:=by
  unfold Z03; rw [Z4j,Z2x]
theorem Z6Q {l:List Int} {i:Nat} {a:Int} (h0:0 <= a) (h1:a < i):nth (l.take i) a=nth l a:=by
  unfold nth
  rw [List.getD,List.getD,List.getElem?_take_of_lt (by omega)]
theorem Z85 {ins:Nat} {rows:List Row} {f:Flt} (hr:RowsOk ins rows) (hf:FltOk ins rows f):∀ (i:Nat),i < ins + rows.length -> nth (Z03 ins rows f) i=tb (2 ^ ins) fun g=>nth (Z8w ins rows g f) i:=by
  intro i
  induction i using Nat.strongRecOn with
  | _ i ih =>
    intro hi
    by_cases h1:i < ins
    . have e1:(Z03 ins rows f)[i]? = some (Z0y (tab (2 ^ ins) fun g=>decide (g / 2 ^ i % 2=1)) i (Z09 (2 ^ ins)) f):=Z6y (Z4P ins i h1)
      rw [Z1A e1 rfl]
      have e2:(tab (2 ^ ins) fun g=>decide (g / 2 ^ i % 2=1))=tb (2 ^ ins) fun g=>((g:Int) / 2 ^ i % 2):=by
        refine Z0j fun g _=>?_
        have e3:((g:Int) / 2 ^ i % 2)=((g / 2 ^ i % 2:Nat):Int):=by simp
        have e4:(g / 2 ^ i % 2=1) ↔ ((g:Int) / 2 ^ i % 2=1):=by rw [e3]; omega
        exact decide_eq_decide.mpr e4
      rw [Z7a e2 hf.w]
      exact Z3P fun g _=>(Z1A (ZcI h1) rfl).symm
    . obtain ⟨k,rfl⟩:∃ k,i=ins + k:=⟨i - ins,by omega⟩
      have hk:k < rows.length:=by omega
      have hr1:=List.getElem?_eq_getElem hk
      generalize rows[k]=r at hr1
      have hrow:=hr k r hr1
      have e1:=Z5l (o:=Z09 (2 ^ ins)) (f:=f) (ss:=inT ins) hr1
      rw [Z2x] at e1
      rw [show nth (Z03 ins rows f) ((ins + k:Nat):Int)=_ from Z1A e1 rfl]
      have hb:∀ g:Nat,nth (Z8w ins rows g f) ((ins + k:Nat):Int)=_:=fun g=>Z1A (ZbD (g:=g) (f:=f) hr1) rfl
      have e2:gate r (legs r ((ins + k:Nat):Int) ((Z3s (Z09 (2 ^ ins)) f (inT ins) rows).take (ins + k)) (Z09 (2 ^ ins)) f) (Z09 (2 ^ ins))=tb (2 ^ ins) fun g=>gate r (legs r ((ins + k:Nat):Int) ((Z8w ins rows g f).take (ins + k)) 1 f) 1:=by
        refine Zdg hrow (Zdf (fun a ha=>?_) hf.l) fun g=>ZaV (fun x hx=>ZcJ hr hf x (List.mem_of_mem_take hx)) hf.l
        have ha2:=hrow.ws a ha
        obtain ⟨a',rfl⟩:∃ a':Nat,a=(a':Int):=⟨a.toNat,by omega⟩
        have:=ih a' (by omega) (by omega)
        rw [Z6Q (by omega) (by omega)]
        show nth (Z03 ins rows f) _=_
        rw [this]
        exact Z3P fun g _=>(Z6Q (by omega) (by omega)).symm
      rw [Z7a e2 hf.w]
      exact Z3P fun g _=>(hb g).symm
theorem Z67:∀ (n:Nat) (b:Nat -> Bool),tabN n b + tabN n (fun g=>!b g) + 1=2 ^ n
  | 0,b=>by simp [tabN]
  | n + 1,b=>by
    have ih:=Z67 n b
    simp only [tabN,Nat.pow_succ]
    by_cases hb:b n=true
    . simp only [hb,Bool.not_true,Bool.false_eq_true,if_true,if_false]; omega
    . simp only [hb,Bool.not_false,Bool.false_eq_true,if_true,if_false]; omega
theorem Zdh (n:Nat) (b:Nat -> Bool):Z09 n - tab n b=tab n (fun g=>!b g):=by
  have h:=Z67 n b
  have h2:((2 ^ n:Nat):Int)=2 ^ n:=by simp
  unfold Z09 tab
  rw [<- h2]
  omega
noncomputable def IsT (n:Nat) (x:Int):Prop:=∃ b,x=tab n b
theorem Ze9 {n:Nat} {x:Int} (h:IsT n x):Builtin.bitXor (Z09 n) x=Z09 n - x:=by obtain ⟨b,rfl⟩:=h; rw [Z86,Zdh]
theorem IsT.not {n:Nat} {x:Int} (h:IsT n x):IsT n (Builtin.bitXor (Z09 n) x):=by obtain ⟨b,rfl⟩:=h; exact ⟨_,Z86 n b⟩
theorem IsT.and {n:Nat} {x y:Int} (h:IsT n x) (k:IsT n y):IsT n (Builtin.bitAnd x y):=by obtain ⟨b,rfl⟩:=h; obtain ⟨c,rfl⟩:=k; exact ⟨_,Z3a n b c⟩
theorem IsT.or {n:Nat} {x y:Int} (h:IsT n x) (k:IsT n y):IsT n (Builtin.bitOr x y):=by obtain ⟨b,rfl⟩:=h; obtain ⟨c,rfl⟩:=k; exact ⟨_,Z3x n b c⟩
theorem IsT.xor {n:Nat} {x y:Int} (h:IsT n x) (k:IsT n y):IsT n (Builtin.bitXor x y):=by obtain ⟨b,rfl⟩:=h; obtain ⟨c,rfl⟩:=k; exact ⟨_,Z2J n b c⟩
theorem Z4y (n:Nat):IsT n 0:=⟨fun _=>false,by unfold tab; rw [Z3y]; rfl⟩
theorem Zea {n:Nat} {b:Int} (h:b=0 \/ b=1):IsT n (Z09 n * b):=⟨_,Za7 n h⟩
theorem Ze0 (l:List Int) (a:Int):nth l a=nth l ((a.toNat:Nat):Int):=by unfold nth; rw [Int.toNat_natCast]
theorem Z20 {ins:Nat} {rows:List Row} {f:Flt} (hr:RowsOk ins rows) (hf:FltOk ins rows f) (a:Int):IsT (2 ^ ins) (nth (Z03 ins rows f) a):=by
  by_cases h:a.toNat < ins + rows.length
  . rw [Ze0,Z85 hr hf _ h]; exact ⟨_,rfl⟩
  . have:nth (Z03 ins rows f) a=0:=by
      unfold nth
      rw [List.getD,List.getElem?_eq_none (by rw [Z0Z]; omega)]
      rfl
    rw [this]; exact Z4y _
theorem Z24 {ins:Nat} {rows:List Row} {f:Flt} {i:Nat} (h:i < ins):(Z03 ins rows f)[i]? = some (Z0y (tab (2 ^ ins) fun g=>decide (g / 2 ^ i % 2=1)) i (Z09 (2 ^ ins)) f):=Z6y (Z4P ins i h)
theorem Z5m {ins:Nat} {rows:List Row} {f:Flt} {k:Nat} {r:Row} (h:rows[k]? = some r) :
    (Z03 ins rows f)[ins + k]? = some (Z0y (gate r (legs r ((ins + k:Nat):Int) ((Z03 ins rows f).take (ins + k)) (Z09 (2 ^ ins)) f) (Z09 (2 ^ ins))) ((ins + k:Nat):Int) (Z09 (2 ^ ins)) f):=by
  have:=Z5l (o:=Z09 (2 ^ ins)) (f:=f) (ss:=inT ins) h
  rw [Z2x] at this
  exact this
theorem Za9 (p:Nat -> Bool):∀ n,(((List.range n).filter p).map fun (g:Nat)=>((1:Int) * 2 ^ (g:Int).toNat)).sum=tab n p
  | 0=>rfl
  | n + 1=>by
    rw [List.range_succ,List.filter_append,List.map_append,List.sum_append,Za9 p n]
    unfold tab
    simp only [tabN]
    cases hp:p n <;> simp [hp]
noncomputable def legO (r:Row) (w l:Int) (vs:List Int) (o:Int) (f:Flt):Int:=match f with
  | .leg w' l' b=>if w'=w /\ l'=l then o * b else nth vs (nth r.ws l)
  | _=>nth vs (nth r.ws l)
theorem Z5D {r:Row} {w l o:Int} {vs:List Int} {f:Flt} (hl:l=0 /\ 0 < r.ws.length \/ l=1 /\ 1 < r.ws.length) (hf:∀ w' l' b,f=.leg w' l' b -> w'=w -> 0 <= l' /\ l' < r.ws.length):nth (legs r w vs o f) l=legO r w l vs o f:=by
  have hm:∀ j:Nat,j < r.ws.length -> (r.ws.map (nth vs))[j]? = some (nth vs (nth r.ws j)):=fun j hj=>by
    rw [List.getElem?_map,List.getElem?_eq_getElem hj]
    simp [nth,List.getD,hj]
  have hbase:nth (r.ws.map (nth vs)) l=nth vs (nth r.ws l):=by
    rcases hl with ⟨rfl,h⟩ | ⟨rfl,h⟩
    . exact Z1A (hm 0 h) rfl
    . exact Z1A (hm 1 h) rfl
  cases f with
  | none=>exact hbase
  | wire _ _=>exact hbase
  | leg w' l' b =>
    unfold legs legO
    by_cases h:w'=w
    . obtain ⟨l0,l1⟩:=hf w' l' b rfl h
      simp only [h,if_true,true_and]
      by_cases h2:l'=l
      . subst h2
        simp only [if_true]
        refine Z1A (i:=l'.toNat) ?_ (by omega)
        rw [List.getElem?_set_self (by rw [List.length_map]; omega)]
      . simp only [h2,if_false]
        have hne:l'.toNat ≠ l.toNat:=by omega
        rw [<- hbase]
        unfold nth
        rw [List.getD,List.getD,List.getElem?_set_ne hne]
    . simp only [h,if_false,false_and]
      exact hbase
noncomputable def kdT (k:Kd) (x y:Int):Int:=match k with | .and=>Builtin.bitAnd x y | .or=>Builtin.bitOr x y | .xor=>Builtin.bitXor x y
theorem Zcm {n:Nat} {r:Row} {w l:Int} {vs:List Int} {f:Flt} (hv:∀ a,IsT n (nth vs a)) (hb:∀ w l b,f=.leg w l b -> b=0 \/ b=1):IsT n (legO r w l vs (Z09 n) f):=by
  unfold legO
  split
  . split
    . exact Zea (hb _ _ _ rfl)
    . exact hv _
  . exact hv _
noncomputable def Z3t (A B outs:List Int):Int:=outs.foldl (fun acc a=>Builtin.bitOr acc (Builtin.bitXor (nth A a) (nth B a))) 0
theorem Z66 {A B outs:List Int} {i:Nat} {a:Int} (h:outs[i]? = some a):Z3t A B (outs.take (i + 1))=Builtin.bitOr (Z3t A B (outs.take i)) (Builtin.bitXor (nth A a) (nth B a)):=by
  unfold Z3t
  rw [Z0v h,List.foldl_append]
  rfl
noncomputable def Z0g (ins:Nat) (rows:List Row) (w:Int):List Int:=if w < (ins:Int) then [] else match rows[(w - (ins:Int)).toNat]? with | some r=>r.ws | none=>[]
theorem Z2d {ins:Nat} {rows:List Row} {w:Int} (h:w < (ins:Int)):Z0g ins rows w=[]:=if_pos h
theorem Z0Y {ins:Nat} {rows:List Row} {w:Int} {r:Row} (h:(ins:Int) <= w) (e:rows[(w - (ins:Int)).toNat]? = some r):Z0g ins rows w=r.ws:=by
  unfold Z0g; rw [if_neg (by omega),e]
theorem Z1K {ins:Nat} {rows:List Row} (hr:RowsOk ins rows) {w b:Int} (hb:b ∈ Z0g ins rows w):0 <= b /\ b < w:=by
  by_cases h:w < (ins:Int)
  . rw [Z2d h] at hb; cases hb
  . cases e:rows[(w - (ins:Int)).toNat]? with
    | none=>unfold Z0g at hb; rw [if_neg h,e] at hb; cases hb
    | some r =>
      rw [Z0Y (by omega) e] at hb
      have:=(hr _ r e).ws b hb
      omega
theorem Z36 {ins:Nat} {rows:List Row} {w:Int}:(Z0g ins rows w).length <= 2:=by
  unfold Z0g
  split
  . simp
  . split
    . rename_i r _
      cases r <;> simp [Row.ws]
    . simp
noncomputable def putI (ks:List Int) (k:Int):List Int:=if k ∈ ks then ks else ks ++ [k]
theorem Zck {ks:List Int} {k a:Int}:a ∈ putI ks k ↔ a ∈ ks \/ a=k:=by
  unfold putI
  split
  . rename_i h
    exact ⟨.inl,fun z=>z.elim id fun z=>z ▸ h⟩
  . simp
theorem Z9y {ks:List Int} {k:Int} (h:ks.Nodup) (hk:k ∉ ks):(ks ++ [k]).Nodup:=by
  refine List.nodup_append.mpr ⟨h,by simp,fun a ha b hb z=>?_⟩
  have:b=k:=by simpa using hb
  subst this; subst z
  exact hk ha
theorem Z9z {ks:List Int} {k:Int} (h:ks.Nodup):(putI ks k).Nodup:=by
  unfold putI
  split
  . exact h
  . rename_i hk; exact Z9y h hk
noncomputable def Z1j (ks xs:List Int):List Int:=xs.foldl putI ks
theorem mem_addAll:∀ {xs ks:List Int} {a:Int},a ∈ Z1j ks xs ↔ a ∈ ks \/ a ∈ xs
  | [],ks,a=>by simp [Z1j]
  | x :: xs,ks,a=>by
    have ih:=mem_addAll (xs:=xs) (ks:=putI ks x) (a:=a)
    unfold Z1j at ih ⊢
    rw [List.foldl_cons,ih,Zck,List.mem_cons,or_assoc]
theorem Z2r:∀ {xs ks:List Int},ks.Nodup -> (Z1j ks xs).Nodup
  | [],ks,h=>h
  | x :: xs,ks,h=>by
    have ih:=Z2r (xs:=xs) (ks:=putI ks x) (Z9z h)
    exact ih
theorem Z3l {xs ks:List Int} {i:Nat} {a:Int} (h:xs[i]? = some a):Z1j ks (xs.take (i + 1))=putI (Z1j ks (xs.take i)) a:=by
  unfold Z1j
  rw [Z0v h,List.foldl_append]
  rfl
theorem Zc5 {ks:List Int} {k:Int}:∃ t,putI ks k=ks ++ t:=by
  unfold putI
  split
  . exact ⟨[],(List.append_nil _).symm⟩
  . exact ⟨[k],rfl⟩
theorem Z6u:∀ {xs ks:List Int},∃ t,Z1j ks xs=ks ++ t
  | [],ks=>⟨[],(List.append_nil _).symm⟩
  | x :: xs,ks=>by
    obtain ⟨t,e⟩:=Z6u (xs:=xs) (ks:=putI ks x)
    obtain ⟨t',e'⟩:=Zc5 (ks:=ks) (k:=x)
    refine ⟨t' ++ t,?_⟩
    rw [<- List.append_assoc,<- e',<- e]
    rfl
theorem Z2K:∀ (N:Nat) (l:List Int),l.Nodup -> (∀ a ∈ l,0 <= a /\ a < (N:Int)) -> l.length <= N
  | 0,[],_,_=>Nat.le_refl _
  | 0,a :: l,_,h=>by have:=h a List.mem_cons_self; omega
  | N + 1,l,nd,h=>by
    have ih:=Z2K N (l.erase (N:Int)) (nd.erase _) (fun a ha=>by
      have h1:=(nd.mem_erase_iff).mp ha
      have:=h a h1.2
      have h2:a ≠ (N:Int):=h1.1
      omega)
    rw [List.length_erase] at ih
    split at ih <;> omega
structure NeedL (ins:Nat) (rows:List Row) (outs L:List Int):Prop where
  nd:L.Nodup
  out:∀ a ∈ outs,a ∈ L
  cl:∀ a ∈ L,∀ b ∈ Z0g ins rows a,b ∈ L
  least:∀ S:Int -> Prop,(∀ a ∈ outs,S a) -> (∀ a,S a -> ∀ b ∈ Z0g ins rows a,S b) -> ∀ a ∈ L,S a
theorem NeedL.perm {ins:Nat} {rows:List Row} {outs L M:List Int} (h:NeedL ins rows outs L) (k:NeedL ins rows outs M):L.Perm M :=
  (List.perm_ext_iff_of_nodup h.nd k.nd).mpr fun a=>⟨fun z=>h.least (· ∈ M) k.out k.cl a z,fun z=>k.least (· ∈ L) h.out h.cl a z⟩
theorem NeedL.sort {ins:Nat} {rows:List Row} {outs L M:List Int} (h:NeedL ins rows outs L) (k:NeedL ins rows outs M):srtI L=srtI M :=
  Z1X ((Z2q _).trans ((h.perm k).trans (Z2q _).symm)) (Z2k _) (Z2k _)
theorem NeedL.bound {ins:Nat} {rows:List Row} {outs L:List Int} (h:NeedL ins rows outs L) (hr:RowsOk ins rows) (ho:∀ a ∈ outs,0 <= a /\ a < ((ins + rows.length:Nat):Int)):∀ a ∈ L,0 <= a /\ a < ((ins + rows.length:Nat):Int) :=
  h.least _ ho fun a ha b hb=>by have:=Z1K hr hb; omega
theorem NeedL.len {ins:Nat} {rows:List Row} {outs L:List Int} (h:NeedL ins rows outs L) (hr:RowsOk ins rows) (ho:∀ a ∈ outs,0 <= a /\ a < ((ins + rows.length:Nat):Int)):L.length <= ins + rows.length:=Z2K _ _ h.nd (h.bound hr ho)
noncomputable def Z2L (ins:Nat) (rows:List Row) (outs:List Int):Nat -> List Int
  | 0=>Z1j [] outs
  | j + 1=>if (((ins + rows.length:Nat):Int) - 1 - (j:Int)) ∈ Z2L ins rows outs j then Z1j (Z2L ins rows outs j) (Z0g ins rows (((ins + rows.length:Nat):Int) - 1 - (j:Int))) else Z2L ins rows outs j
structure Zgd (ins:Nat) (rows:List Row) (outs:List Int) (j:Nat) (L:List Int):Prop where
  nd:L.Nodup
  out:∀ a ∈ outs,a ∈ L
  cl:∀ a ∈ L,((ins + rows.length:Nat):Int) - (j:Int) <= a -> ∀ b ∈ Z0g ins rows a,b ∈ L
  least:∀ S:Int -> Prop,(∀ a ∈ outs,S a) -> (∀ a,S a -> ∀ b ∈ Z0g ins rows a,S b) -> ∀ a ∈ L,S a
theorem Zch {ins:Nat} {rows:List Row} {outs:List Int} (hr:RowsOk ins rows) (ho:∀ a ∈ outs,0 <= a /\ a < ((ins + rows.length:Nat):Int)):∀ j,Zgd ins rows outs j (Z2L ins rows outs j)
  | 0=>by
    refine ⟨Z2r List.nodup_nil,fun a ha=>mem_addAll.mpr (.inr ha),fun a ha h=>?_,fun S h1 _ a ha=>?_⟩
    . have:=ho a ((mem_addAll.mp ha).elim (fun z=>(by cases z)) id)
      omega
    . exact h1 a ((mem_addAll.mp ha).elim (fun z=>(by cases z)) id)
  | j + 1=>by
    have ih:=Zch hr ho j
    unfold Z2L
    by_cases hw:(((ins + rows.length:Nat):Int) - 1 - (j:Int)) ∈ Z2L ins rows outs j
    . rw [if_pos hw]
      generalize hW:((ins + rows.length:Nat):Int) - 1 - (j:Int)=W at *
      refine ⟨Z2r ih.nd,fun a ha=>mem_addAll.mpr (.inl (ih.out a ha)),fun a ha h b hb=>?_,fun S h1 h2 a ha=>?_⟩
      . rcases mem_addAll.mp ha with z | z
        . by_cases haw:a=W
          . subst haw; exact mem_addAll.mpr (.inr hb)
          . exact mem_addAll.mpr (.inl (ih.cl a z (by omega) b hb))
        . have:=Z1K hr z
          omega
      . rcases mem_addAll.mp ha with z | z
        . exact ih.least S h1 h2 a z
        . exact h2 W (ih.least S h1 h2 W hw) a z
    . rw [if_neg hw]
      refine ⟨ih.nd,ih.out,fun a ha h b hb=>?_,ih.least⟩
      by_cases haw:a=((ins + rows.length:Nat):Int) - 1 - (j:Int)
      . rw [haw] at ha; exact absurd ha hw
      . exact ih.cl a ha (by omega) b hb
theorem Z2o {ins:Nat} {rows:List Row} {outs:List Int} (hr:RowsOk ins rows) (ho:∀ a ∈ outs,0 <= a /\ a < ((ins + rows.length:Nat):Int)):NeedL ins rows outs (Z2L ins rows outs rows.length):=by
  have h:=Zch hr ho rows.length
  refine ⟨h.nd,h.out,fun a ha b hb=>?_,h.least⟩
  by_cases hi:a < (ins:Int)
  . rw [Z2d hi] at hb; cases hb
  . exact h.cl a ha (by omega) b hb
noncomputable def Z0G (ins:Nat) (rows:List Row) (outs:List Int):List Int:=srtI (Z2L ins rows outs rows.length)
theorem mem_needV {ins:Nat} {rows:List Row} {outs:List Int} {a:Int}:a ∈ Z0G ins rows outs ↔ a ∈ Z2L ins rows outs rows.length:=(Z2q _).mem_iff
theorem Z12 {ins:Nat} {rows:List Row} {outs:List Int} (hr:RowsOk ins rows) (ho:∀ a ∈ outs,0 <= a /\ a < ((ins + rows.length:Nat):Int)):∀ a ∈ Z0G ins rows outs,0 <= a /\ a < ((ins + rows.length:Nat):Int) :=
  fun a ha=>(Z2o hr ho).bound hr ho a (mem_needV.mp ha)
theorem Z4u {ins:Nat} {rows:List Row} {outs:List Int} (hr:RowsOk ins rows) (ho:∀ a ∈ outs,0 <= a /\ a < ((ins + rows.length:Nat):Int)):(Z0G ins rows outs).length <= ins + rows.length:=by
  have:=(Z2q (Z2L ins rows outs rows.length)).length_eq
  unfold Z0G
  rw [this]
  exact (Z2o hr ho).len hr ho
noncomputable def Z1n (ins:Nat) (rows:List Row) (w:Int):List Int:=if w < (ins:Int) then [0,1] else match rows[(w - (ins:Int)).toNat]? with | some (.fix b)=>[1 - b] | _=>[0,1]
theorem Z2n {ins:Nat} {rows:List Row} {w:Int}:(Z1n ins rows w).length <= 2:=by
  unfold Z1n
  split
  . simp
  . split <;> simp
theorem Z4E {ins:Nat} {rows:List Row} (hr:RowsOk ins rows) {w b:Int} (hb:b ∈ Z1n ins rows w):b=0 \/ b=1:=by
  unfold Z1n at hb
  split at hb
  . simpa using hb
  . split at hb
    . rename_i c e
      have:=hr _ _ e
      have h2:b=1 - c:=by simpa using hb
      rcases (show c=0 \/ c=1 from this) with z | z <;> omega
    . simpa using hb
noncomputable def Z0F (ins:Nat) (rows:List Row) (w:Int) (k:Nat):List Int -> List Flt
  | []=>[]
  | a :: r=>(Z1n ins rows a).map (fun b=>Flt.leg w (k:Int) b) ++ Z0F ins rows w (k + 1) r
noncomputable def Z0K (ins:Nat) (rows:List Row) (w:Int):List Flt:=(Z1n ins rows w).map (fun b=>Flt.wire w b) ++ Z0F ins rows w 0 (Z0g ins rows w)
noncomputable def Z23 (ins:Nat) (rows:List Row) (outs:List Int):List Flt:=(Z0G ins rows outs).flatMap (Z0K ins rows)
theorem Z44 {ins:Nat} {rows:List Row} {w:Int}:∀ (l:List Int) (k:Nat) (a:Int),Z0F ins rows w k (l ++ [a])=Z0F ins rows w k l ++ (Z1n ins rows a).map (fun b=>Flt.leg w ((k + l.length:Nat):Int) b)
  | [],k,a=>by simp [Z0F]
  | x :: l,k,a=>by
    simp only [List.cons_append,Z0F]
    rw [Z44 l (k + 1) a,List.append_assoc,List.length_cons,show k + 1 + l.length=k + (l.length + 1) by omega]
theorem Z2H {ins:Nat} {rows:List Row} {w:Int}:∀ (l:List Int) (k:Nat),(Z0F ins rows w k l).length <= 2 * l.length
  | [],k=>by simp [Z0F]
  | x :: l,k=>by
    have h1:=Z2H (ins:=ins) (rows:=rows) (w:=w) l (k + 1)
    have h2:=Z2n (ins:=ins) (rows:=rows) (w:=x)
    simp only [Z0F,List.length_append,List.length_map,List.length_cons]
    omega
theorem Z61 {ins:Nat} {rows:List Row} {w:Int}:(Z0K ins rows w).length <= 6:=by
  have h1:=Z2H (ins:=ins) (rows:=rows) (w:=w) (Z0g ins rows w) 0
  have h2:=Z2n (ins:=ins) (rows:=rows) (w:=w)
  have h3:=Z36 (ins:=ins) (rows:=rows) (w:=w)
  unfold Z0K
  rw [List.length_append,List.length_map]
  omega
theorem Z6W {ins:Nat} {rows:List Row}:∀ (l:List Int),(l.flatMap (Z0K ins rows)).length <= 6 * l.length
  | []=>by simp
  | a :: l=>by
    have h1:=Z6W (ins:=ins) (rows:=rows) l
    have h2:=Z61 (ins:=ins) (rows:=rows) (w:=a)
    rw [List.flatMap_cons,List.length_append,List.length_cons]
    omega
theorem Z3g {ins:Nat} {rows:List Row} {w:Int} {f:Flt}:∀ {l:List Int} {k:Nat},f ∈ Z0F ins rows w k l -> ∃ j a b,l[j]? = some a /\ b ∈ Z1n ins rows a /\ f=.leg w ((k + j:Nat):Int) b
  | [],k,h=>by cases h
  | x :: l,k,h=>by
    simp only [Z0F] at h
    rcases List.mem_append.mp h with z | z
    . obtain ⟨b,hb,rfl⟩:=List.mem_map.mp z
      exact ⟨0,x,b,rfl,hb,rfl⟩
    . obtain ⟨j,a,b,h1,h2,h3⟩:=Z3g z
      exact ⟨j + 1,a,b,by simpa using h1,h2,by rw [h3]; congr 2; omega⟩
theorem Z4R {ins:Nat} {rows:List Row} {outs:List Int} (hr:RowsOk ins rows):∀ f ∈ Z23 ins rows outs,FltOk ins rows f /\ f ≠ .none:=by
  intro f hf
  obtain ⟨w,_,hw⟩:=List.mem_flatMap.mp hf
  unfold Z0K at hw
  rcases List.mem_append.mp hw with z | z
  . obtain ⟨b,hb,rfl⟩:=List.mem_map.mp z
    have h1:=Z4E hr hb
    exact ⟨⟨fun w b e=>(by cases e; exact h1),fun w l b e=>(by cases e),fun w l b k r e=>(by cases e)⟩,fun z=>(by cases z)⟩
  . obtain ⟨j,a,b,h1,h2,rfl⟩:=Z3g z
    have h3:=Z4E hr h2
    refine ⟨⟨fun w b e=>(by cases e),fun w l b e=>(by cases e; exact h3),fun w' l' b' k r e er ew=>?_⟩,fun z=>(by cases z)⟩
    cases e
    have hl:Z0g ins rows w=r.ws:=Z0Y (by omega) (by rw [ew,show (((ins + k:Nat):Int) - (ins:Int)).toNat=k by omega]; exact er)
    rw [hl] at h1
    have:=(List.getElem?_eq_some_iff.mp h1).1
    omega
noncomputable def dKT (ks:List Int):D:=.dk (ks.map Sum.inl) (ks.map fun _=>.bl true)
theorem inl_mem {ks:List Int} {k:Int}:(Sum.inl k:Key) ∈ ks.map Sum.inl ↔ k ∈ ks:=by
  constructor
  . intro h
    obtain ⟨a,ha,e⟩:=List.mem_map.mp h
    cases e; exact ha
  . intro h; exact List.mem_map.mpr ⟨k,h,rfl⟩
theorem Z8V {ks:List Int} {k:Int}:memK (Sum.inl k:Key) (ks.map Sum.inl)=decide (k ∈ ks):=by
  by_cases h:k ∈ ks
  . rw [memK_iff.mpr (inl_mem.mpr h),decide_eq_true h]
  . rw [decide_eq_false h,Bool.eq_false_iff]
    exact fun z=>h (inl_mem.mp (memK_iff.mp z))
theorem Zc3 {ks:List Int} {k:Int}:putN (ks.map Sum.inl) (Sum.inl k:Key)=(putI ks k).map Sum.inl:=by
  unfold putN putI
  by_cases h:k ∈ ks
  . rw [if_pos (inl_mem.mpr h),if_pos h]
  . rw [if_neg (fun z=>h (inl_mem.mp z)),if_neg h,List.map_append]; rfl
theorem Z4W {k:Int}:∀ (ks:List Int),List.zipWith (fun (k':Key) (y:D)=>if k'=(Sum.inl k:Key) then D.bl true else y) (ks.map Sum.inl) (ks.map fun _=>D.bl true)=ks.map fun _=>D.bl true
  | []=>rfl
  | a :: ks=>by simp only [List.map_cons,List.zipWith_cons_cons,Z4W ks]; split <;> rfl
theorem Zaw {ks:List Int} {k:Int}:putZ (ks.map Sum.inl) (ks.map fun _=>D.bl true) (Sum.inl k:Key) (.bl true)=(putI ks k).map fun _=>D.bl true:=by
  unfold putZ putI
  by_cases h:k ∈ ks
  . rw [if_pos (inl_mem.mpr h),if_pos h]; exact Z4W ks
  . rw [if_neg (fun z=>h (inl_mem.mp z)),if_neg h,List.map_append]; rfl
theorem Z9P (ks:List Int):Z1m (ks.map fun _=>D.bl true)=true:=Z37 fun d hd=>by
  obtain ⟨_,_,rfl⟩:=List.mem_map.mp hd; rfl
theorem Z6c {i:Nat} {fk fv:En -> Option D} {env:En} {ks:List Int} {k:Int} (hv:fv env=some (.bl true)) (hi:env[i]? = some (some (true,dKT ks))) (hk:fk env=some (.int k)) (hl:ks.length < 1000) :
    Z49 i fk fv env=.next (env.set i (some (true,dKT (putI ks k)))):=by
  unfold Z49 dKT at *
  rw [hv,hi,hk]
  simp only [keyOf,Z9P,PD.flat,List.length_map,hl,and_self,if_true,Zc3,Zaw]
theorem Z8Y {k:Int}:∀ (ks:List Int),inD (.int k) (ks.map D.int)=some (decide (k ∈ ks))
  | []=>rfl
  | a :: ks=>by
    simp only [List.map_cons,inD,eqN_int,Z8Y ks]
    by_cases h:a=k
    . subst h; simp
    . have h':¬ k=a:=fun z=>h z.symm
      simp [h,h']
theorem Z8X {k:Int} {ks:List Int}:inF (.int k) (LI ks)=some (decide (k ∈ ks)):=Z8Y ks
theorem Zaj {rs:List Nat} {src:En -> Option (List D)} {t:D -> En -> Option En} {g:En -> Res} {env:En} {ds:List D} (hs:src env=some ds) (I:Nat -> En -> Prop) (h0:I 0 (fz rs env))
    (st:∀ i d env,ds[i]? = some d -> I i env -> ∃ env1 env2,t d env=some env1 /\ g env1=.next env2 /\ I (i + 1) env2):∃ env',rFor rs src t g env=.next env' /\ I ds.length env':=by
  obtain ⟨env',h1,h2⟩:=Zbk I (fun i d e hd hI=>let ⟨e1,e2,a,b,c⟩:=st i d e hd hI; ⟨e1,e2,a,.inl b,c⟩) h0
  exact ⟨env',Zai hs h1,h2⟩
theorem Z38:∀ {xs ks:List Int},(Z1j ks xs).length <= ks.length + xs.length
  | [],ks=>by simp [Z1j]
  | x :: xs,ks=>by
    have ih:=Z38 (xs:=xs) (ks:=putI ks x)
    have h:(putI ks x).length <= ks.length + 1:=by unfold putI; split <;> simp
    have e:Z1j ks (x :: xs)=Z1j (putI ks x) xs:=rfl
    rw [e,List.length_cons]; omega
theorem Z7B {ins:Nat} {rows:List Row} {outs:List Int} (hr:RowsOk ins rows) (ho:∀ a ∈ outs,0 <= a /\ a < ((ins + rows.length:Nat):Int)) (j:Nat):(Z2L ins rows outs j).length <= ins + rows.length :=
  Z2K _ _ (Zch hr ho j).nd ((Zch hr ho j).least _ ho fun a ha b hb=>by have:=Z1K hr hb; omega)
theorem Z7O {ins:Nat} {rows:List Row} {l:List Int} {i:Nat} {w:Int} (h:l[i]? = some w):(l.take (i + 1)).flatMap (Z0K ins rows)=(l.take i).flatMap (Z0K ins rows) ++ Z0K ins rows w:=by
  rw [Z0v h,List.flatMap_append]; simp
theorem Z43 {ins:Nat} {rows:List Row} {w:Int} {l:List Int} {i:Nat} {a:Int} (h:l[i]? = some a):Z0F ins rows w 0 (l.take (i + 1))=Z0F ins rows w 0 (l.take i) ++ (Z1n ins rows a).map (fun b=>Flt.leg w (i:Int) b):=by
  have hi:i < l.length:=(List.getElem?_eq_some_iff.mp h).1
  rw [Z0v h,Z44,List.length_take,Nat.zero_add,Nat.min_eq_left (by omega)]
theorem Z41 {rows:List Row} {k:Nat} {r:Row} (h:rows[k]? = some r) {a:Int} (e:a=(k:Int)):atI (rows.map Row.d) a=some r.d:=by
  subst e
  exact Z4g (by simp [h])
noncomputable def Z62 (ins:Nat) (rows:List Row) (outs:List Int):Nat -> List Int
  | 0=>outs
  | j + 1=>if (((ins + rows.length:Nat):Int) - 1 - (j:Int)) ∈ Z62 ins rows outs j then Z62 ins rows outs j ++ Z0g ins rows (((ins + rows.length:Nat):Int) - 1 - (j:Int)) else Z62 ins rows outs j
structure Zgb (ins:Nat) (rows:List Row) (outs:List Int) (j:Nat) (L:List Int):Prop where
  out:∀ a ∈ outs,a ∈ L
  cl:∀ a ∈ L,((ins + rows.length:Nat):Int) - (j:Int) <= a -> ∀ b ∈ Z0g ins rows a,b ∈ L
  least:∀ S:Int -> Prop,(∀ a ∈ outs,S a) -> (∀ a,S a -> ∀ b ∈ Z0g ins rows a,S b) -> ∀ a ∈ L,S a
theorem Zes {ins:Nat} {rows:List Row} {outs:List Int} (hr:RowsOk ins rows) (ho:∀ a ∈ outs,0 <= a /\ a < ((ins + rows.length:Nat):Int)):∀ j,Zgb ins rows outs j (Z62 ins rows outs j)
  | 0=>by
    refine ⟨fun a ha=>ha,fun a ha h=>?_,fun S h1 _ a ha=>h1 a ha⟩
    have:=ho a ha
    omega
  | j + 1=>by
    have ih:=Zes hr ho j
    unfold Z62
    by_cases hw:(((ins + rows.length:Nat):Int) - 1 - (j:Int)) ∈ Z62 ins rows outs j
    . rw [if_pos hw]
      generalize hW:((ins + rows.length:Nat):Int) - 1 - (j:Int)=W at *
      refine ⟨fun a ha=>List.mem_append_left _ (ih.out a ha),fun a ha h b hb=>?_,fun S h1 h2 a ha=>?_⟩
      . rcases List.mem_append.mp ha with z | z
        . by_cases haw:a=W
          . subst haw; exact List.mem_append_right _ hb
          . exact List.mem_append_left _ (ih.cl a z (by omega) b hb)
        . have:=Z1K hr z
          omega
      . rcases List.mem_append.mp ha with z | z
        . exact ih.least S h1 h2 a z
        . exact h2 W (ih.least S h1 h2 W hw) a z
    . rw [if_neg hw]
      refine ⟨ih.out,fun a ha h b hb=>?_,ih.least⟩
      by_cases haw:a=((ins + rows.length:Nat):Int) - 1 - (j:Int)
      . rw [haw] at ha; exact absurd ha hw
      . exact ih.cl a ha (by omega) b hb
theorem Z9X {ins:Nat} {rows:List Row} {outs:List Int} (hr:RowsOk ins rows) (ho:∀ a ∈ outs,0 <= a /\ a < ((ins + rows.length:Nat):Int)) {a:Int}:a ∈ Z62 ins rows outs (ins + rows.length) ↔ a ∈ Z0G ins rows outs:=by
  have h:=Zes hr ho (ins + rows.length)
  have k:=Z2o hr ho
  rw [mem_needV]
  constructor
  . exact h.least _ k.out k.cl a
  . refine k.least _ h.out (fun c hc b hb=>?_) a
    by_cases hi:c < (ins:Int)
    . rw [Z2d hi] at hb; cases hb
    . exact h.cl c hc (by omega) b hb
noncomputable def Z3q (n:Nat):List Int:=(List.range n).map fun (k:Nat)=>(k:Int)
theorem rangeI_mem {n:Nat} {a:Int}:a ∈ Z3q n ↔ 0 <= a /\ a < (n:Int):=by
  unfold Z3q
  constructor
  . intro h
    obtain ⟨k,hk,rfl⟩:=List.mem_map.mp h
    have:=List.mem_range.mp hk
    omega
  . intro ⟨h1,h2⟩
    exact List.mem_map.mpr ⟨a.toNat,List.mem_range.mpr (by omega),by omega⟩
theorem Z4q (n:Nat):(Z3q n).Pairwise (· < ·):=by
  unfold Z3q
  rw [List.pairwise_map]
  refine List.Pairwise.imp (fun h=>?_) List.pairwise_lt_range
  omega
theorem Z6f {ins:Nat} {rows:List Row} {outs:List Int} (hr:RowsOk ins rows) (ho:∀ a ∈ outs,0 <= a /\ a < ((ins + rows.length:Nat):Int)) :
    (Z3q (ins + rows.length)).filter (fun a=>decide (a ∈ Z62 ins rows outs (ins + rows.length)))=Z0G ins rows outs:=by
  have s1:((Z3q (ins + rows.length)).filter (fun a=>decide (a ∈ Z62 ins rows outs (ins + rows.length)))).Pairwise (· < ·):=(Z4q _).filter _
  have n1:((Z3q (ins + rows.length)).filter (fun a=>decide (a ∈ Z62 ins rows outs (ins + rows.length)))).Nodup:=s1.imp fun h=>by omega
  have n2:(Z0G ins rows outs).Nodup:=(Z2q _).nodup_iff.mpr (Z2o hr ho).nd
  refine Z1X ((List.perm_ext_iff_of_nodup n1 n2).mpr fun a=>?_) (s1.imp fun h=>by omega) (Z2k _)
  rw [List.mem_filter,decide_eq_true_eq,Z9X hr ho,rangeI_mem]
  exact ⟨fun h=>h.2,fun h=>⟨Z12 hr ho a h,h⟩⟩
theorem tab_zero {n:Nat} {b:Nat -> Bool}:tab n b=0 ↔ ∀ g,g < n -> b g=false:=by
  constructor
  . intro h g hg
    have h1:=Z10 n b g
    have h2:tabN n b=0:=by unfold tab at h; omega
    rw [h2] at h1
    simpa [hg] using h1.symm
  . intro h
    rw [show tab n b=tab n (fun _=>false) from Z0j fun g hg=>h g hg]
    unfold tab; rw [Z3y]; rfl
theorem tab_inj {n:Nat} {a b:Nat -> Bool}:tab n a=tab n b ↔ ∀ g,g < n -> a g=b g:=by
  constructor
  . intro h g hg
    have h1:=Z10 n a g
    have h2:=Z10 n b g
    have h3:tabN n a=tabN n b:=by unfold tab at h; omega
    rw [h3,h2] at h1
    simpa [hg] using h1.symm
  . exact Z0j
theorem ZdU {n:Nat} {x y:Int} (hx:IsT n x) (hy:IsT n y):Builtin.bitOr x y=0 ↔ x=0 /\ y=0:=by
  obtain ⟨a,rfl⟩:=hx
  obtain ⟨b,rfl⟩:=hy
  rw [Z3x,tab_zero,tab_zero,tab_zero]
  constructor
  . intro h
    exact ⟨fun g hg=>by have:=h g hg; simp at this; exact this.1,fun g hg=>by have:=h g hg; simp at this; exact this.2⟩
  . intro ⟨h1,h2⟩ g hg
    simp [h1 g hg,h2 g hg]
theorem ZbL {n:Nat} {x y:Int} (hx:IsT n x) (hy:IsT n y):Builtin.bitXor x y=0 ↔ x=y:=by
  obtain ⟨a,rfl⟩:=hx
  obtain ⟨b,rfl⟩:=hy
  rw [Z2J,tab_zero,tab_inj]
  constructor
  . intro h g hg
    have:=h g hg
    cases ha:a g <;> cases hb:b g <;> simp_all
  . intro h g hg
    rw [h g hg]; simp
theorem Z7M {n:Nat} {A B:List Int} (hA:∀ a,IsT n (nth A a)) (hB:∀ a,IsT n (nth B a)):∀ (outs:List Int) (x:Int),IsT n x -> (outs.foldl (fun acc a=>Builtin.bitOr acc (Builtin.bitXor (nth A a) (nth B a))) x=0 ↔ x=0 /\ ∀ a ∈ outs,nth A a=nth B a)
  | [],x,h=>by simp
  | a :: outs,x,h=>by
    rw [List.foldl_cons,Z7M hA hB outs _ (h.or ((hA a).xor (hB a))),ZdU h ((hA a).xor (hB a)),ZbL (hA a) (hB a)]
    simp only [List.mem_cons,forall_eq_or_imp,and_assoc]
theorem Z9l {n:Nat} {A B:List Int} (hA:∀ a,IsT n (nth A a)) (hB:∀ a,IsT n (nth B a)) (outs:List Int):Z3t A B outs=0 ↔ outs.map (nth B)=outs.map (nth A):=by
  unfold Z3t
  rw [Z7M hA hB outs 0 (Z4y n)]
  constructor
  . intro ⟨_,h⟩
    exact List.map_congr_left fun a ha=>(h a ha).symm
  . intro h
    refine ⟨rfl,fun a ha=>?_⟩
    have:=List.map_inj_left.mp h a ha
    exact this.symm
noncomputable def Z3f (rows:List Row):Nat:=(rows.map fun r=>r.ws.length).sum
theorem ZaR {l m:List Int} {a:Int} (h:a.toNat < l.length):nth (l ++ m) a=nth l a:=by
  unfold nth
  rw [List.getD,List.getD,List.getElem?_append_left h]
theorem ZaQ {l:List Int} {x a:Int} (h:a.toNat=l.length):nth (l ++ [x]) a=x:=by
  unfold nth
  rw [List.getD,List.getElem?_append_right (by omega),h]; simp
theorem Z3w (ins:Nat) (R:List Row) (r:Row):Z03 ins (R ++ [r]) .none=Z03 ins R .none ++ [gate r (r.ws.map (nth (Z03 ins R .none))) (Z09 (2 ^ ins))]:=by
  unfold Z03 Z3s; rw [Z3R]; rfl
theorem ZaU {r:Row} {w:Int} {vs:List Int} {o:Int} {f:Flt} {n:Nat} (h:RowOk (n:Int) r):legs r w (vs.take n) o f=legs r w vs o f:=by
  have e:r.ws.map (nth (vs.take n))=r.ws.map (nth vs):=List.map_congr_left fun a ha=>Z6Q (h.ws a ha).1 (h.ws a ha).2
  unfold legs; rw [e]
theorem Z25 {ins:Nat} {rows:List Row} {f:Flt} (hr:RowsOk ins rows) {k:Nat} {r:Row} (h:rows[k]? = some r):nth (Z03 ins rows f) ((ins + k:Nat):Int)=Z0y (gate r (legs r ((ins + k:Nat):Int) (Z03 ins rows f) (Z09 (2 ^ ins)) f) (Z09 (2 ^ ins))) ((ins + k:Nat):Int) (Z09 (2 ^ ins)) f:=by
  have:=Z5m (ins:=ins) (f:=f) h
  rw [ZaU (hr k r h)] at this
  exact Z1A this rfl
theorem t_o (n:Nat):Z09 n=tab n (fun _=>true):=(Z4k n).symm
theorem t_z (n:Nat):(0:Int)=tab n (fun _=>false):=by unfold tab; rw [Z3y]; rfl
theorem Z5P (ins:Nat):1 <= Z09 (2 ^ ins):=by
  have h1:2 ^ 1 <= 2 ^ (2 ^ ins):=Nat.pow_le_pow_right (by decide) (Nat.one_le_two_pow)
  have h2:((2 ^ (2 ^ ins):Nat):Int)=2 ^ (2 ^ ins):=by simp
  unfold Z09
  rw [<- h2]
  omega
section
variable {n:Nat} {x:Int}
theorem t_a0 (h:IsT n x):Builtin.bitAnd 0 x=0:=by obtain ⟨b,rfl⟩:=h; rw [t_z n,Z3a]; exact Z0j fun g _=>by simp
theorem Zfx (h:IsT n x):Builtin.bitAnd x 0=0:=by obtain ⟨b,rfl⟩:=h; rw [t_z n,Z3a]; exact Z0j fun g _=>by simp
theorem t_a1 (h:IsT n x):Builtin.bitAnd (Z09 n) x=x:=by obtain ⟨b,rfl⟩:=h; rw [t_o n,Z3a]; exact Z0j fun g _=>by simp
theorem Zfw (h:IsT n x):Builtin.bitAnd x (Z09 n)=x:=by obtain ⟨b,rfl⟩:=h; rw [t_o n,Z3a]; exact Z0j fun g _=>by simp
theorem t_r0 (h:IsT n x):Builtin.bitOr 0 x=x:=by obtain ⟨b,rfl⟩:=h; rw [t_z n,Z3x]; exact Z0j fun g _=>by simp
theorem Zfv (h:IsT n x):Builtin.bitOr x 0=x:=by obtain ⟨b,rfl⟩:=h; rw [t_z n,Z3x]; exact Z0j fun g _=>by simp
theorem t_r1 (h:IsT n x):Builtin.bitOr (Z09 n) x=Z09 n:=by obtain ⟨b,rfl⟩:=h; rw [t_o n,Z3x]; exact Z0j fun g _=>by simp
theorem Zfu (h:IsT n x):Builtin.bitOr x (Z09 n)=Z09 n:=by obtain ⟨b,rfl⟩:=h; rw [t_o n,Z3x]; exact Z0j fun g _=>by simp
theorem t_x0 (h:IsT n x):Builtin.bitXor 0 x=x:=by obtain ⟨b,rfl⟩:=h; rw [t_z n,Z2J]; exact Z0j fun g _=>by simp
theorem ZbP (h:IsT n x):Builtin.bitXor x 0=x:=by obtain ⟨b,rfl⟩:=h; rw [t_z n,Z2J]; exact Z0j fun g _=>by simp
theorem t_x1:Builtin.bitXor (Z09 n) (Z09 n)=0:=by rw [t_o n,Z2J,t_z n]; exact Z0j fun g _=>by simp
theorem t_xc (h:IsT n x):Builtin.bitXor x (Z09 n)=Builtin.bitXor (Z09 n) x:=by obtain ⟨b,rfl⟩:=h; rw [t_o n,Z2J,Z2J]; exact Z0j fun g _=>by simp
theorem t_xx (h:IsT n x):Builtin.bitXor (Builtin.bitXor (Z09 n) x) (Z09 n)=x:=by obtain ⟨b,rfl⟩:=h; rw [t_o n,Z2J,Z2J]; exact Z0j fun g _=>by simp
end
theorem Z4z (n:Nat):IsT n (Z09 n):=⟨_,t_o n⟩
noncomputable def fx (o v:Int):Bool:=decide (v=0) || decide (v=o)
theorem Zbg {o v:Int} (h0:v ≠ 0) (h1:v ≠ o):fx o v=false:=by simp [fx,h0,h1]
theorem Zd6 {o v:Int}:fx o v=true ↔ v=0 \/ v=o:=by simp [fx]
noncomputable def Z2T (g:Int -> Int) (o:Int) (ls:List Int):Row -> Row
  | .fix b=>.fix b
  | .not _=>.not (g (nth ls 0))
  | .bin k _ _=>if k=.xor /\ o ∈ ls then .not (g (Builtin.bitXor (Builtin.bitXor (nth ls 0) (nth ls 1)) o)) else .bin k (g (nth ls 0)) (g (nth ls 1))
theorem Z2I {g:Int -> Int} {o:Int} {ls:List Int} {k:Kd} {a b:Int}:Z2T g o ls (.bin k a b)=if k=.xor /\ o ∈ ls then .not (g (Builtin.bitXor (Builtin.bitXor (nth ls 0) (nth ls 1)) o)) else .bin k (g (nth ls 0)) (g (nth ls 1)):=rfl
theorem ZcP {l:List Int} (h:l.length=2):∃ x y,l=[x,y]:=by
  match l,h with
  | [x,y],_=>exact ⟨x,y,rfl⟩
structure Z8z (n:Nat) (T:List Int) (m A B v:Int) (ls:List Int) (r r':Row):Prop where
  ok:RowOk m r'
  val:gate r' (r'.ws.map (nth T)) (Z09 n)=v
  nf:∀ a ∈ r'.ws,a ≠ A /\ a ≠ B
  le:r'.ws.length <= r.ws.length
  lt:ls.any (fx (Z09 n))=true -> r'.ws.length + 1 <= r.ws.length
theorem Zc8 {n:Nat} {r:Row} {ls T:List Int} {g:Int -> Int} {K:Int -> Prop} {m q v A B:Int} (hq:RowOk q r) (hl:ls.length=r.ws.length) (ht:∀ x ∈ ls,IsT n x) (hk:∀ x ∈ ls,K x) (k0:K 0) (k1:K (Z09 n)) (hg:∀ t,K t -> (0 <= g t /\ g t < m) /\ nth T (g t)=t) (hA:nth T A=0) (hB:nth T B=Z09 n) (hv:gate r ls (Z09 n)=v) (nv:¬ K v) :
    Z8z n T m A B v ls r (Z2T g (Z09 n) ls r):=by
  have ne:∀ t,K t -> t ≠ 0 -> t ≠ Z09 n -> g t ≠ A /\ g t ≠ B:=fun t kt h0 h1=>by
    have h2:=(hg t kt).2
    exact ⟨fun z=>h0 (by rw [<- h2,z,hA]),fun z=>h1 (by rw [<- h2,z,hB])⟩
  cases r with
  | fix b =>
    exfalso
    have e:Z09 n * b=v:=hv
    rcases (show b=0 \/ b=1 from hq) with z | z
    . subst z; rw [Int.mul_zero] at e; exact nv (e ▸ k0)
    . subst z; rw [Int.mul_one] at e; exact nv (e ▸ k1)
  | not a =>
    obtain ⟨x,rfl⟩:∃ x,ls=[x]:=List.length_eq_one_iff.mp hl
    have tx:=ht x List.mem_cons_self
    have kx:=hk x List.mem_cons_self
    have e:Builtin.bitXor (Z09 n) x=v:=hv
    have x0:x ≠ 0:=fun z=>nv (by rw [<- e,z,ZbP (Z4z n)]; exact k1)
    have x1:x ≠ Z09 n:=fun z=>nv (by rw [<- e,z,t_x1]; exact k0)
    have gx:=hg x kx
    refine ⟨gx.1,?_,fun a ha=>?_,Nat.le_refl _,fun z=>?_⟩
    . show Builtin.bitXor (Z09 n) (nth T (g x))=v
      rw [gx.2]; exact e
    . have:a=g x:=by simpa [Z2T,Row.ws,nth] using ha
      rw [this]; exact ne x kx x0 x1
    . simp [Zbg x0 x1] at z
  | bin k a b =>
    obtain ⟨x,y,rfl⟩:∃ x y,ls=[x,y]:=ZcP hl
    have tx:=ht x List.mem_cons_self
    have kx:=hk x List.mem_cons_self
    have ty:=ht y (List.mem_cons_of_mem _ List.mem_cons_self)
    have ky:=hk y (List.mem_cons_of_mem _ List.mem_cons_self)
    have gx:=hg x kx
    have gy:=hg y ky
    have two:x ≠ 0 -> x ≠ Z09 n -> y ≠ 0 -> y ≠ Z09 n -> Z8z n T m A B v [x,y] (.bin k a b) (.bin k (g x) (g y)):=fun x0 x1 y0 y1=>by
      refine ⟨⟨gx.1,gy.1⟩,?_,fun c hc=>?_,Nat.le_refl _,fun z=>?_⟩
      . have:gate (.bin k (g x) (g y)) [nth T (g x),nth T (g y)] (Z09 n)=gate (.bin k a b) [x,y] (Z09 n):=by rw [gx.2,gy.2]; cases k <;> rfl
        exact this.trans hv
      . rcases (show c=g x \/ c=g y by simpa [Row.ws] using hc) with z | z
        . rw [z]; exact ne x kx x0 x1
        . rw [z]; exact ne y ky y0 y1
      . simp [Zbg x0 x1,Zbg y0 y1] at z
    have one:∀ z:Int,K z -> z ≠ 0 -> z ≠ Z09 n -> Builtin.bitXor (Z09 n) z=v -> Z8z n T m A B v [x,y] (.bin k a b) (.not (g z)):=fun z kz z0 z1 ez=>by
      have gz:=hg z kz
      refine ⟨gz.1,?_,fun c hc=>?_,by simp [Row.ws],fun _=>by simp [Row.ws]⟩
      . show Builtin.bitXor (Z09 n) (nth T (g z))=v
        rw [gz.2]; exact ez
      . have:c=g z:=by simpa [Row.ws] using hc
        rw [this]; exact ne z kz z0 z1
    cases k with
    | and =>
      have e:Builtin.bitAnd x y=v:=hv
      have:Z2T g (Z09 n) [x,y] (.bin .and a b)=.bin .and (g x) (g y):=by rw [Z2I,if_neg (by simp)]; rfl
      rw [this]
      exact two (fun z=>nv (by rw [<- e,z,t_a0 ty]; exact k0)) (fun z=>nv (by rw [<- e,z,t_a1 ty]; exact ky)) (fun z=>nv (by rw [<- e,z,Zfx tx]; exact k0)) (fun z=>nv (by rw [<- e,z,Zfw tx]; exact kx))
    | or =>
      have e:Builtin.bitOr x y=v:=hv
      have:Z2T g (Z09 n) [x,y] (.bin .or a b)=.bin .or (g x) (g y):=by rw [Z2I,if_neg (by simp)]; rfl
      rw [this]
      exact two (fun z=>nv (by rw [<- e,z,t_r0 ty]; exact ky)) (fun z=>nv (by rw [<- e,z,t_r1 ty]; exact k1)) (fun z=>nv (by rw [<- e,z,Zfv tx]; exact kx)) (fun z=>nv (by rw [<- e,z,Zfu tx]; exact k1))
    | xor =>
      have e:Builtin.bitXor x y=v:=hv
      by_cases hx:x=Z09 n
      . have:Z2T g (Z09 n) [x,y] (.bin .xor a b)=.not (g y):=by
          rw [Z2I,if_pos ⟨rfl,by simp [hx]⟩]
          show Row.not (g (Builtin.bitXor (Builtin.bitXor x y) (Z09 n)))=_
          rw [hx,t_xx ty]
        rw [this]
        rw [hx] at e
        exact one y ky (fun z=>nv (by rw [<- e,z,ZbP (Z4z n)]; exact k1)) (fun z=>nv (by rw [<- e,z,t_x1]; exact k0)) e
      . by_cases hy:y=Z09 n
        . have:Z2T g (Z09 n) [x,y] (.bin .xor a b)=.not (g x):=by
            rw [Z2I,if_pos ⟨rfl,by simp [hy]⟩]
            show Row.not (g (Builtin.bitXor (Builtin.bitXor x y) (Z09 n)))=_
            rw [hy,t_xc tx,t_xx tx]
          rw [this]
          rw [hy,t_xc tx] at e
          exact one x kx (fun z=>nv (by rw [<- e,z,ZbP (Z4z n)]; exact k1)) (fun z=>nv (by rw [<- e,z,t_x1]; exact k0)) e
        . have:Z2T g (Z09 n) [x,y] (.bin .xor a b)=.bin .xor (g x) (g y):=by
            rw [Z2I,if_neg (by simp [Ne.symm hx,Ne.symm hy])]; rfl
          rw [this]
          exact two (fun z=>nv (by rw [<- e,z,t_x0 ty]; exact ky)) hx (fun z=>nv (by rw [<- e,z,ZbP tx]; exact kx)) hy
noncomputable def keys (kv:List (Int × Int)):List Int:=kv.map (·.1)
noncomputable def lgAt (ins:Nat) (rows:List Row) (f:Flt) (w:Int):List Int:=match rows[(w - (ins:Int)).toNat]? with
  | some r=>legs r w (Z03 ins rows f) (Z09 (2 ^ ins)) f
  | none=>[]
noncomputable def lose (ins:Nat) (rows:List Row) (f:Flt) (w:Int):Bool:=decide (Z0g ins rows w ≠ []) && (fx (Z09 (2 ^ ins)) (nth (Z03 ins rows f) w) || (lgAt ins rows f w).any (fx (Z09 (2 ^ ins))))
noncomputable def Zbh (ins:Nat) (rows:List Row) (f:Flt) (w:Int):Bool:=decide ((ins:Int) <= w) && !fx (Z09 (2 ^ ins)) (nth (Z03 ins rows f) w)
noncomputable def fix2 (R:List Row):List Row:=.fix 0 :: .fix 1 :: R
theorem Z5S (R:List Row) (r:Row):fix2 (R ++ [r])=fix2 R ++ [r]:=rfl
theorem Z2W (R:List Row):(fix2 R).length=R.length + 2:=rfl
theorem Z5R {ins:Nat} {R:List Row} (h:RowsOk ins (fix2 R)):nth (Z03 ins (fix2 R) .none) (ins:Int)=0:=by
  have:=Z25 (f:=.none) h (k:=0) (r:=.fix 0) rfl
  rw [show ((ins + 0:Nat):Int)=(ins:Int) from rfl] at this
  rw [this]; show Z09 (2 ^ ins) * 0=0; omega
theorem Z5Q {ins:Nat} {R:List Row} (h:RowsOk ins (fix2 R)):nth (Z03 ins (fix2 R) .none) ((ins:Int) + 1)=Z09 (2 ^ ins):=by
  have:=Z25 (f:=.none) h (k:=1) (r:=.fix 1) rfl
  rw [show ((ins + 1:Nat):Int)=(ins:Int) + 1 by simp] at this
  rw [this]; show Z09 (2 ^ ins) * 1=_; omega
structure SP (ins:Nat) (rows:List Row) (f:Flt) (P:List Int) (kv:List (Int × Int)) (R:List Row):Prop where
  ok:RowsOk ins (fix2 R)
  b:∀ p ∈ kv,(0 <= p.2 /\ p.2 < ((ins + 2 + R.length:Nat):Int)) /\ nth (Z03 ins (fix2 R) .none) p.2=p.1
  z:0 ∈ keys kv
  u:Z09 (2 ^ ins) ∈ keys kv
  i:∀ t ∈ inT ins,t ∈ keys kv
  dn:∀ w ∈ P,nth (Z03 ins rows f) w ∈ keys kv
  nf:∀ r ∈ R,∀ a ∈ r.ws,a ≠ (ins:Int) /\ a ≠ (ins:Int) + 1
  cnt:R.length <= (P.filter (Zbh ins rows f)).length
  lg:Z3f R + (P.filter (lose ins rows f)).length <= (P.map fun w=>(Z0g ins rows w).length).sum
theorem Z4B {p:Int -> Bool} {P:List Int} {w:Int}:((P ++ [w]).filter p).length=(P.filter p).length + if p w=true then 1 else 0:=by
  rw [List.filter_append,List.length_append]
  cases h:p w <;> simp [h]
theorem SP.skip {ins:Nat} {rows:List Row} {f:Flt} {P:List Int} {kv:List (Int × Int)} {R:List Row} (h:SP ins rows f P kv R) {w:Int} (hk:nth (Z03 ins rows f) w ∈ keys kv):SP ins rows f (P ++ [w]) kv R:=by
  refine ⟨h.ok,h.b,h.z,h.u,h.i,fun a ha=>?_,h.nf,?_,?_⟩
  . rcases List.mem_append.mp ha with z | z
    . exact h.dn a z
    . have:a=w:=by simpa using z
      rw [this]; exact hk
  . rw [Z4B]; have:=h.cnt; omega
  . rw [Z4B,List.map_append,List.sum_append]
    have h1:=h.lg
    simp only [List.map_cons,List.map_nil,List.sum_cons,List.sum_nil,Nat.add_zero]
    split
    . rename_i hl
      have:Z0g ins rows w ≠ []:=by
        unfold lose at hl
        rw [Bool.and_eq_true] at hl
        exact of_decide_eq_true hl.1
      have:=List.length_pos_iff.mpr this
      omega
    . omega
theorem keys_snoc {kv:List (Int × Int)} {t v a:Int}:a ∈ keys (kv ++ [(t,v)]) ↔ a ∈ keys kv \/ a=t:=by simp [keys]
theorem Z9B (R:List Row) (r:Row):Z3f (R ++ [r])=Z3f R + r.ws.length:=by simp [Z3f]
theorem Z6U {ins:Nat} {rows:List Row} {f:Flt} {r:Row} {w:Int} {P:List Int} {K:Int -> Prop} (hf:FltOk ins rows f) (k0:K 0) (k1:K (Z09 (2 ^ ins))) (hP:∀ a ∈ r.ws,K (nth (Z03 ins rows f) a)):∀ x ∈ legs r w (Z03 ins rows f) (Z09 (2 ^ ins)) f,K x:=by
  have base:∀ x ∈ r.ws.map (nth (Z03 ins rows f)),K x:=fun x hx=>by
    obtain ⟨a,ha,rfl⟩:=List.mem_map.mp hx
    exact hP a ha
  intro x hx
  unfold legs at hx
  split at hx
  . rename_i w' l b
    split at hx
    . rcases List.mem_or_eq_of_mem_set hx with z | z
      . exact base x z
      . rw [z]
        rcases hf.l w' l b rfl with q | q
        . rw [q,Int.mul_zero]; exact k0
        . rw [q,Int.mul_one]; exact k1
    . exact base x hx
  . exact base x hx
theorem SP.add {ins:Nat} {rows:List Row} {f:Flt} {P:List Int} {kv:List (Int × Int)} {R:List Row} (h:SP ins rows f P kv R) (hr:RowsOk ins rows) (hf:FltOk ins rows f) {k:Nat} {r:Row} {w:Int} (hk:rows[k]? = some r) (hw:w=((ins + k:Nat):Int)) (hP:∀ a ∈ r.ws,a ∈ P) (nv:nth (Z03 ins rows f) w ∉ keys kv) {g:Int -> Int} (hg:∀ t ∈ keys kv,(t,g t) ∈ kv) :
    SP ins rows f (P ++ [w]) (kv ++ [(nth (Z03 ins rows f) w,((ins + 2 + R.length:Nat):Int))]) (R ++ [Z2T g (Z09 (2 ^ ins)) (legs r w (Z03 ins rows f) (Z09 (2 ^ ins)) f) r]):=by
  have hrow:=hr k r hk
  have hV:=Z25 (f:=f) hr hk
  rw [<- hw] at hV
  have hon:nth (Z03 ins rows f) w=gate r (legs r w (Z03 ins rows f) (Z09 (2 ^ ins)) f) (Z09 (2 ^ ins)):=by
    rw [hV]
    cases f with
    | none=>rfl
    | leg _ _ _=>rfl
    | wire w' b =>
      unfold Z0y
      by_cases hc:w'=w
      . exfalso
        rw [hV] at nv
        unfold Z0y at nv
        simp only [hc,if_true] at nv
        rcases hf.w w' b rfl with q | q
        . rw [q,Int.mul_zero] at nv; exact nv h.z
        . rw [q,Int.mul_one] at nv; exact nv h.u
      . simp only [hc,if_false]
  have po:=Zc8 (n:=2 ^ ins) (r:=r) (ls:=legs r w (Z03 ins rows f) (Z09 (2 ^ ins)) f) (T:=Z03 ins (fix2 R) .none) (g:=g) (K:=(· ∈ keys kv)) (m:=((ins + 2 + R.length:Nat):Int)) (v:=nth (Z03 ins rows f) w) (A:=(ins:Int)) (B:=(ins:Int) + 1) hrow (Z6T _ _ _ _ _)
    (Z6U (P:=P) (K:=IsT (2 ^ ins)) hf (Z4y _) (Z4z _) fun a _=>Z20 hr hf a)
    (Z6U (P:=P) (K:=(· ∈ keys kv)) hf h.z h.u fun a ha=>h.dn a (hP a ha)) h.z h.u (fun t ht=>h.b (t,g t) (hg t ht)) (Z5R h.ok) (Z5Q h.ok) hon.symm nv
  generalize hr':Z2T g (Z09 (2 ^ ins)) (legs r w (Z03 ins rows f) (Z09 (2 ^ ins)) f) r=r' at po ⊢
  have tl:(Z03 ins (fix2 R) .none).length=ins + 2 + R.length:=by rw [Z0Z,Z2W]; omega
  have tn:Z03 ins (fix2 (R ++ [r'])) .none=Z03 ins (fix2 R) .none ++ [nth (Z03 ins rows f) w]:=by rw [Z5S,Z3w,po.val]
  have l1:(R ++ [r']).length=R.length + 1:=by simp
  refine ⟨?_,?_,?_,?_,?_,?_,?_,?_,?_⟩
  . intro j x hx
    rw [Z5S] at hx
    by_cases hj:j < (fix2 R).length
    . rw [List.getElem?_append_left hj] at hx; exact h.ok j x hx
    . have hj2:j=(fix2 R).length:=by
        have:=(List.getElem?_eq_some_iff.mp hx).1
        rw [List.length_append] at this
        simp at this; omega
      subst hj2
      rw [List.getElem?_append_right (Nat.le_refl _)] at hx
      simp at hx
      subst hx
      rw [Z2W]
      rw [show ins + (R.length + 2)=ins + 2 + R.length by omega]
      exact po.ok
  . intro p hp
    rw [tn,l1]
    rcases List.mem_append.mp hp with z | z
    . have hb:=h.b p z
      refine ⟨⟨hb.1.1,by omega⟩,?_⟩
      rw [ZaR (by rw [tl]; omega)]; exact hb.2
    . have:p=(nth (Z03 ins rows f) w,((ins + 2 + R.length:Nat):Int)):=by simpa using z
      subst this
      refine ⟨⟨by show (0:Int) <= ((ins + 2 + R.length:Nat):Int); omega,by show ((ins + 2 + R.length:Nat):Int) < _; omega⟩,?_⟩
      exact ZaQ (by rw [tl]; show ((ins + 2 + R.length:Nat):Int).toNat=_; omega)
  . exact keys_snoc.mpr (.inl h.z)
  . exact keys_snoc.mpr (.inl h.u)
  . exact fun t ht=>keys_snoc.mpr (.inl (h.i t ht))
  . intro a ha
    rcases List.mem_append.mp ha with z | z
    . exact keys_snoc.mpr (.inl (h.dn a z))
    . have:a=w:=by simpa using z
      rw [this]; exact keys_snoc.mpr (.inr rfl)
  . intro x hx a ha
    rcases List.mem_append.mp hx with z | z
    . exact h.nf x z a ha
    . have:x=r':=by simpa using z
      rw [this] at ha; exact po.nf a ha
  . rw [Z4B,l1]
    have hx:Zbh ins rows f w=true:=by
      have n0:nth (Z03 ins rows f) w ≠ 0:=fun z=>nv (z ▸ h.z)
      have n1:nth (Z03 ins rows f) w ≠ Z09 (2 ^ ins):=fun z=>nv (z ▸ h.u)
      unfold Zbh; rw [Zbg n0 n1,decide_eq_true (by omega)]; rfl
    rw [if_pos hx]
    have:=h.cnt; omega
  . rw [Z4B,Z9B,List.map_append,List.sum_append]
    simp only [List.map_cons,List.map_nil,List.sum_cons,List.sum_nil,Nat.add_zero]
    have h1:=h.lg
    have kk:(w - (ins:Int)).toNat=k:=by omega
    have hl:Z0g ins rows w=r.ws:=Z0Y (by omega) (by rw [kk]; exact hk)
    rw [hl]
    split
    . rename_i hlo
      have n0:nth (Z03 ins rows f) w ≠ 0:=fun z=>nv (z ▸ h.z)
      have n1:nth (Z03 ins rows f) w ≠ Z09 (2 ^ ins):=fun z=>nv (z ▸ h.u)
      unfold lose at hlo
      rw [Zbg n0 n1,Bool.false_or,Bool.and_eq_true] at hlo
      have:lgAt ins rows f w=legs r w (Z03 ins rows f) (Z09 (2 ^ ins)) f:=by unfold lgAt; rw [kk,hk]
      rw [this] at hlo
      have:=po.lt hlo.2
      omega
    . have:=po.le
      omega
theorem Z9A {N:List Int} {φ:Int -> Int} (nd:N.Nodup) (inj:∀ a b,φ a=φ b -> a=b):(N.map φ).Nodup:=by
  unfold List.Nodup at *
  rw [List.pairwise_map]
  exact nd.imp fun h z=>h (inj _ _ z)
theorem Z6e {N:List Int} {A:Int} {m:Nat} (nd:N.Nodup) (h:∀ a ∈ N,A <= a /\ a < A + (m:Int)):N.length <= m:=by
  have:=Z2K m (N.map fun a=>a - A) (Z9A nd fun a b z=>by omega) (fun a ha=>by
    obtain ⟨c,hc,rfl⟩:=List.mem_map.mp ha
    have:=h c hc
    omega)
  simpa using this
theorem ZaS {N:List Int} {A:Int} {m:Nat} (nd:N.Nodup) (h:∀ a ∈ N,A <= a /\ a < A + 2 + (m:Int)):N.length <= (if A ∈ N then 1 else 0) + (if A + 1 ∈ N then 1 else 0) + m:=by
  have n1:=nd.erase A
  have n2:=n1.erase (A + 1)
  have:=Z6e (A:=A + 2) (m:=m) n2 (fun a ha=>by
    have h1:=(n1.mem_erase_iff).mp ha
    have h2:=(nd.mem_erase_iff).mp h1.2
    have h3:=h a h2.2
    have h4:a ≠ A + 1:=h1.1
    have h5:a ≠ A:=h2.1
    omega)
  rw [List.length_erase,List.length_erase] at this
  have hm:(A + 1 ∈ N.erase A) ↔ A + 1 ∈ N:=by rw [nd.mem_erase_iff]; exact ⟨fun z=>z.2,fun z=>⟨by omega,z⟩⟩
  simp only [hm] at this
  split <;> split <;> simp_all <;> omega
theorem Z4C {p:Int -> Bool} {a:Int} {l:List Int}:((a :: l).filter p).length=(if p a=true then 1 else 0) + (l.filter p).length:=by
  cases h:p a <;> simp [h]; omega
theorem ZcQ {p p1 p2 p3:Int -> Bool} (h:∀ a,(if p1 a=true then 1 else 0) + (if p2 a=true then 1 else 0) + (if p3 a=true then 1 else 0) <= (if p a=true then 1 else 0:Nat)):∀ l:List Int,(l.filter p1).length + (l.filter p2).length + (l.filter p3).length <= (l.filter p).length
  | []=>by simp
  | a :: l=>by
    have ih:=ZcQ h l
    have:=h a
    rw [Z4C,Z4C,Z4C,Z4C]
    omega
theorem Z5h {p:Int -> Bool} {l:List Int} {a:Int} (h:a ∈ l) (hp:p a=true):1 <= (l.filter p).length:=List.length_pos_iff.mpr (List.ne_nil_of_mem (List.mem_filter.mpr ⟨h,hp⟩))
theorem Z3b (p:Int -> Bool) (φ:Int -> Nat):∀ l:List Int,((l.filter p).map φ).sum <= (l.map φ).sum
  | []=>by simp
  | a :: l=>by
    have ih:=Z3b p φ l
    cases h:p a <;> simp [h] <;> omega
theorem Z8G {φ:Int -> Nat}:∀ {l:List Int},(∀ a ∈ l,φ a=0) -> (l.map φ).sum=0
  | [],_=>rfl
  | a :: l,h=>by
    have ih:=Z8G (φ:=φ) (l:=l) fun b hb=>h b (List.mem_cons_of_mem _ hb)
    have:=h a List.mem_cons_self
    simp [this,ih]
theorem Z9r (a b:Nat):Z3q (a + b)=Z3q a ++ (List.range b).map fun (k:Nat)=>((a + k:Nat):Int):=by
  unfold Z3q
  rw [List.range_add,List.map_append,List.map_map]; rfl
theorem Z9n {ins:Nat} {rows:List Row}:((Z3q (ins + rows.length)).map fun w=>(Z0g ins rows w).length).sum=Z3f rows:=by
  rw [Z9r,List.map_append,List.sum_append,Z8G (l:=Z3q ins) fun a ha=>by rw [Z2d (rangeI_mem.mp ha).2]; rfl,Nat.zero_add,List.map_map]
  unfold Z3f
  congr 1
  apply List.ext_getElem?
  intro k
  rw [List.getElem?_map,List.getElem?_map]
  by_cases hk:k < rows.length
  . rw [List.getElem?_range hk,List.getElem?_eq_getElem hk]
    simp only [Option.map_some,Function.comp]
    have:Z0g ins rows ((ins + k:Nat):Int)=(rows[k]).ws:=Z0Y (by omega) (by rw [show (((ins + k:Nat):Int) - (ins:Int)).toNat=k by omega]; exact List.getElem?_eq_getElem hk)
    rw [this]
  . rw [List.getElem?_eq_none (by simpa using hk),List.getElem?_eq_none (by simpa using hk)]; rfl
theorem Z7A {ins:Nat} {rows:List Row} {outs:List Int} (hr:RowsOk ins rows) (ho:∀ a ∈ outs,0 <= a /\ a < ((ins + rows.length:Nat):Int)):((Z0G ins rows outs).map fun w=>(Z0g ins rows w).length).sum <= Z3f rows:=by
  rw [<- Z6f hr ho,<- Z9n (ins:=ins)]
  exact Z3b _ _ _
theorem Z2U {ins:Nat} {rows:List Row} {outs:List Int} (hr:RowsOk ins rows) (ho:∀ a ∈ outs,0 <= a /\ a < ((ins + rows.length:Nat):Int)):(Z0G ins rows outs).Pairwise (· < ·):=by
  rw [<- Z6f hr ho]
  exact (Z4q _).filter _
theorem Z3U {ins:Nat} {rows:List Row} {outs:List Int} (hr:RowsOk ins rows) (ho:∀ a ∈ outs,0 <= a /\ a < ((ins + rows.length:Nat):Int)) {a b:Int} (ha:a ∈ Z0G ins rows outs) (hb:b ∈ Z0g ins rows a):b ∈ Z0G ins rows outs :=
  mem_needV.mpr ((Z2o hr ho).cl a (mem_needV.mp ha) b hb)
theorem Z1H {ins:Nat} {rows:List Row} {outs:List Int} (hr:RowsOk ins rows) (ho:∀ a ∈ outs,0 <= a /\ a < ((ins + rows.length:Nat):Int)) {a:Int} (ha:a ∈ outs):a ∈ Z0G ins rows outs:=mem_needV.mpr ((Z2o hr ho).out a ha)
noncomputable def Row.mv (g:Int -> Int):Row -> Row
  | .fix b=>.fix b
  | .not a=>.not (g a)
  | .bin k a b=>.bin k (g a) (g b)
theorem Ze2 (g:Int -> Int) (r:Row):(r.mv g).ws=r.ws.map g:=by cases r <;> rfl
theorem Ze3 (g:Int -> Int) (r:Row) (ls:List Int) (o:Int):gate (r.mv g) ls o=gate r ls o:=by cases r with
  | fix b=>rfl
  | not a=>rfl
  | bin k a b=>cases k <;> rfl
noncomputable def ix:List Int -> Int -> Nat
  | [],_=>0
  | a :: l,w=>if a=w then 0 else ix l w + 1
theorem Zb0:∀ {l m:List Int} {w:Int},w ∉ l -> ix (l ++ w :: m) w=l.length
  | [],m,w,_=>by simp [ix]
  | a :: l,m,w,h=>by
    have h1:¬ a=w:=fun z=>h (z ▸ List.mem_cons_self)
    have ih:=Zb0 (l:=l) (m:=m) (w:=w) fun z=>h (List.mem_cons_of_mem _ z)
    simp only [List.cons_append,ix,h1,if_false,List.length_cons,ih]
theorem Zfi {l:List Int} (nd:l.Nodup) {j:Nat} {a:Int} (h:l[j]? = some a):ix l a=j:=by
  have hj:=(List.getElem?_eq_some_iff.mp h).1
  have e:l=l.take j ++ a :: l.drop (j + 1):=by
    have:=List.take_append_drop j l
    rw [List.drop_eq_getElem_cons hj,(List.getElem?_eq_some_iff.mp h).2] at this
    exact this.symm
  have hn:a ∉ l.take j:=by
    rw [e] at nd
    intro z
    exact (List.nodup_append.mp nd).2.2 a z a List.mem_cons_self rfl
  conv=>lhs; rw [e]
  rw [Zb0 hn,List.length_take]; omega
noncomputable def Z33 (ins:Nat) (rows:List Row) (outs:List Int):List Int:=(Z0G ins rows outs).filter fun a=>decide ((ins:Int) <= a)
noncomputable def pl (ins:Nat) (N:List Int) (w:Int):Int:=if w < (ins:Int) then w else (ins:Int) + (ix N w:Nat)
noncomputable def Z58 (ins:Nat) (rows:List Row) (w:Int):Row:=(rows[(w - (ins:Int)).toNat]?).getD (.fix 0)
noncomputable def plN (ins:Nat) (rows:List Row) (outs:List Int):Int -> Int:=pl ins (Z33 ins rows outs)
noncomputable def Z1D (ins:Nat) (rows:List Row) (outs:List Int):List Row:=(Z33 ins rows outs).map fun w=>(Z58 ins rows w).mv (plN ins rows outs)
section
variable {ins:Nat} {rows:List Row} {outs:List Int} (hr:RowsOk ins rows) (ho:∀ a ∈ outs,0 <= a /\ a < ((ins + rows.length:Nat):Int))
include hr ho
theorem Z4X:(Z33 ins rows outs).Pairwise (· < ·):=(Z2U hr ho).filter _
theorem Z6B:(Z33 ins rows outs).Nodup:=(Z4X hr ho).imp fun h=>by omega
theorem Z1k {a:Int}:a ∈ Z33 ins rows outs ↔ a ∈ Z0G ins rows outs /\ (ins:Int) <= a:=by unfold Z33; rw [List.mem_filter,decide_eq_true_eq]
theorem Z7k:(Z33 ins rows outs).length <= rows.length:=by
  refine Z6e (A:=(ins:Int)) (Z6B hr ho) fun a ha=>?_
  have h1:=(Z1k hr ho).mp ha
  have:=Z12 hr ho a h1.1
  omega
theorem Z32 {a:Int} (h:a ∈ Z33 ins rows outs):∃ k r,rows[k]? = some r /\ a=((ins + k:Nat):Int) /\ Z58 ins rows a=r /\ Z0g ins rows a=r.ws:=by
  have h1:=(Z1k hr ho).mp h
  have h2:=Z12 hr ho a h1.1
  have hk:(a - (ins:Int)).toNat < rows.length:=by omega
  refine ⟨(a - (ins:Int)).toNat,rows[(a - (ins:Int)).toNat],List.getElem?_eq_getElem hk,by omega,?_,?_⟩
  . unfold Z58; rw [List.getElem?_eq_getElem hk]; rfl
  . exact Z0Y (by omega) (List.getElem?_eq_getElem hk)
theorem Zc9 {a:Int} (h:a < (ins:Int)):plN ins rows outs a=a:=if_pos h
theorem Z7p {j:Nat} {a:Int} (h:(Z33 ins rows outs)[j]? = some a):plN ins rows outs a=((ins + j:Nat):Int):=by
  have hm:=(Z1k hr ho).mp (List.mem_of_getElem? h)
  unfold plN pl
  rw [if_neg (by omega),Zfi (Z6B hr ho) h]; omega
theorem Zac {N:List Int} (hN:N.Pairwise (· < ·)) {j k:Nat} {a b:Int} (h1:N[j]? = some a) (h2:N[k]? = some b) (h:a < b):j < k:=by
  obtain ⟨j1,e1⟩:=List.getElem?_eq_some_iff.mp h1
  obtain ⟨k1,e2⟩:=List.getElem?_eq_some_iff.mp h2
  rcases Nat.lt_trichotomy j k with z | z | z
  . exact z
  . subst z; omega
  . have:=List.pairwise_iff_getElem.mp hN k j k1 j1 z
    omega
theorem ZcW {k:Nat} {w a:Int} (h:(Z33 ins rows outs)[k]? = some w) (ha:a ∈ Z0g ins rows w):(0 <= plN ins rows outs a /\ plN ins rows outs a < ((ins + k:Nat):Int)) /\ a ∈ Z0G ins rows outs /\ a < w:=by
  have hm:=(Z1k hr ho).mp (List.mem_of_getElem? h)
  have hl:=Z1K hr ha
  have hn:=Z3U hr ho hm.1 ha
  refine ⟨?_,hn,hl.2⟩
  by_cases hi:a < (ins:Int)
  . rw [Zc9 hr ho hi]; omega
  . have ham:=(Z1k hr ho).mpr ⟨hn,by omega⟩
    obtain ⟨j,hj⟩:=List.getElem?_of_mem ham
    rw [Z7p hr ho hj]
    have:=Zac hr ho (Z4X hr ho) hj h hl.2
    omega
theorem Z3O:(Z1D ins rows outs).length=(Z33 ins rows outs).length:=by simp [Z1D]
theorem Z60 {k:Nat} {w:Int} (h:(Z33 ins rows outs)[k]? = some w):(Z1D ins rows outs)[k]? = some ((Z58 ins rows w).mv (plN ins rows outs)):=by unfold Z1D; rw [List.getElem?_map,h]; rfl
theorem Z4U:RowsOk ins (Z1D ins rows outs):=by
  intro k r hk
  have hlt:=(List.getElem?_eq_some_iff.mp hk).1
  rw [Z3O hr ho] at hlt
  have hw:=List.getElem?_eq_getElem hlt
  generalize (Z33 ins rows outs)[k]=w at hw
  rw [Z60 hr ho hw] at hk
  cases hk
  obtain ⟨k',r',hk',ew,e1,e2⟩:=Z32 hr ho (List.mem_of_getElem? hw)
  have hl:=fun a ha=>(ZcW hr ho hw (a:=a) ha).1
  rw [e1]
  rw [e2] at hl
  have ok:=hr k' r' hk'
  cases r' with
  | fix b=>exact ok
  | not a=>exact hl a (by simp [Row.ws])
  | bin _ a b=>exact ⟨hl a (by simp [Row.ws]),hl b (by simp [Row.ws])⟩
theorem ZdO {a:Int} (h:a ∈ Z0G ins rows outs):0 <= plN ins rows outs a /\ plN ins rows outs a < ((ins + (Z1D ins rows outs).length:Nat):Int):=by
  have hb:=Z12 hr ho a h
  by_cases hi:a < (ins:Int)
  . rw [Zc9 hr ho hi]; omega
  . obtain ⟨j,hj⟩:=List.getElem?_of_mem ((Z1k hr ho).mpr ⟨h,by omega⟩)
    rw [Z7p hr ho hj,Z3O hr ho]
    have:=(List.getElem?_eq_some_iff.mp hj).1
    omega
theorem Z6t:∀ a ∈ outs.map (plN ins rows outs),0 <= a /\ a < ((ins + (Z1D ins rows outs).length:Nat):Int):=fun a ha=>by
  obtain ⟨c,hc,rfl⟩:=List.mem_map.mp ha
  exact ZdO hr ho (Z1H hr ho hc)
theorem ZbH:∀ (n:Nat),(n:Int) ∈ Z0G ins rows outs -> nth (Z03 ins (Z1D ins rows outs) .none) (plN ins rows outs (n:Int))=nth (Z03 ins rows .none) (n:Int):=by
  intro n
  induction n using Nat.strongRecOn with
  | _ n ih =>
    intro hn
    by_cases hi:n < ins
    . rw [Zc9 hr ho (by omega)]
      rw [Z1A (Z24 (rows:=Z1D ins rows outs) (f:=.none) hi) rfl,Z1A (Z24 (rows:=rows) (f:=.none) hi) rfl]
    . have hm:=(Z1k hr ho).mpr ⟨hn,by omega⟩
      obtain ⟨j,hj⟩:=List.getElem?_of_mem hm
      obtain ⟨k',r',hk',ew,e1,e2⟩:=Z32 hr ho hm
      rw [Z7p hr ho hj]
      have t1:=Z25 (f:=.none) (Z4U hr ho) (Z60 hr ho hj)
      have t2:=Z25 (f:=.none) hr hk'
      rw [<- ew] at t2
      rw [t1,t2,e1]
      show gate (r'.mv _) ((r'.mv _).ws.map _) _=gate r' (r'.ws.map _) _
      rw [Ze3,Ze2,List.map_map]
      congr 1
      refine List.map_congr_left fun a ha=>?_
      rw [<- e2] at ha
      have hl:=ZcW hr ho hj ha
      have h0:=Z1K hr ha
      have:=ih a.toNat (by omega) (by rw [show ((a.toNat:Nat):Int)=a by omega]; exact hl.2.1)
      rw [show ((a.toNat:Nat):Int)=a by omega] at this
      exact this
theorem Z81:(outs.map (plN ins rows outs)).map (nth (Z03 ins (Z1D ins rows outs) .none))=outs.map (nth (Z03 ins rows .none)):=by
  rw [List.map_map]
  refine List.map_congr_left fun a ha=>?_
  have h0:=ho a ha
  have:=ZbH hr ho a.toNat (by rw [show ((a.toNat:Nat):Int)=a by omega]; exact Z1H hr ho ha)
  rw [show ((a.toNat:Nat):Int)=a by omega] at this
  exact this
theorem Z9U:Z3f (Z1D ins rows outs) <= Z3f rows:=by
  have e:Z3f (Z1D ins rows outs)=((Z33 ins rows outs).map fun w=>(Z0g ins rows w).length).sum:=by
    unfold Z3f Z1D
    rw [List.map_map]
    congr 1
    refine List.map_congr_left fun w hw=>?_
    obtain ⟨k',r',hk',ew,e1,e2⟩:=Z32 hr ho hw
    simp only [Function.comp]
    rw [Ze2,List.length_map,e1,e2]
  rw [e]
  exact Nat.le_trans (Z3b _ _ _) (Z7A hr ho)
theorem Z9T {k:Nat} (hk:k < (Z1D ins rows outs).length):((ins + k:Nat):Int) ∈ Z0G ins (Z1D ins rows outs) (outs.map (plN ins rows outs)):=by
  have ar:=Z4U hr ho
  have ao:=Z6t hr ho
  have main:∀ a ∈ Z2L ins rows outs rows.length,a ∈ Z0G ins rows outs /\ plN ins rows outs a ∈ Z0G ins (Z1D ins rows outs) (outs.map (plN ins rows outs)):=by
    refine (Z2o hr ho).least (fun a=>a ∈ Z0G ins rows outs /\ plN ins rows outs a ∈ Z0G ins (Z1D ins rows outs) (outs.map (plN ins rows outs))) (fun a ha=>⟨Z1H hr ho ha,Z1H ar ao (List.mem_map_of_mem ha)⟩) fun a ⟨h1,h2⟩ b hb=>?_
    refine ⟨Z3U hr ho h1 hb,?_⟩
    by_cases hi:a < (ins:Int)
    . rw [Z2d hi] at hb; cases hb
    . have hm:=(Z1k hr ho).mpr ⟨h1,by omega⟩
      obtain ⟨j,hj⟩:=List.getElem?_of_mem hm
      obtain ⟨k',r',hk',ew,e1,e2⟩:=Z32 hr ho hm
      rw [Z7p hr ho hj] at h2
      refine Z3U ar ao h2 ?_
      rw [Z0Y (r:=(Z58 ins rows a).mv (plN ins rows outs)) (by omega) (by rw [show (((ins + j:Nat):Int) - (ins:Int)).toNat=j by omega]; exact Z60 hr ho hj),Ze2,e1]
      rw [e2] at hb
      exact List.mem_map_of_mem hb
  rw [Z3O hr ho] at hk
  have hw:=List.getElem?_eq_getElem hk
  generalize (Z33 ins rows outs)[k]=w at hw
  have hm:=(Z1k hr ho).mp (List.mem_of_getElem? hw)
  have:=(main w (mem_needV.mp hm.1)).2
  rw [Z7p hr ho hw] at this
  exact this
end
theorem Zb4 {ins i:Nat} (h:i < ins):(tab (2 ^ ins) fun g=>decide (g / 2 ^ i % 2=1)) ≠ 0 /\ (tab (2 ^ ins) fun g=>decide (g / 2 ^ i % 2=1)) ≠ Z09 (2 ^ ins):=by
  constructor
  . intro z
    have:=tab_zero.mp z (2 ^ i) (Nat.pow_lt_pow_right (by decide) h)
    rw [Nat.div_self (Nat.two_pow_pos i)] at this
    simp at this
  . intro z
    rw [t_o] at z
    have:=tab_inj.mp z 0 (Nat.two_pow_pos ins)
    simp at this
theorem Z9G {ins:Nat} {R:List Row} (nf:∀ r ∈ R,∀ a ∈ r.ws,a ≠ (ins:Int) /\ a ≠ (ins:Int) + 1) {a b:Int} (hb:b ∈ Z0g ins (fix2 R) a):b ≠ (ins:Int) /\ b ≠ (ins:Int) + 1:=by
  unfold Z0g at hb
  split at hb
  . cases hb
  . cases e:(fix2 R)[(a - (ins:Int)).toNat]? with
    | none=>rw [e] at hb; cases hb
    | some r =>
      rw [e] at hb
      have hm:=List.mem_of_getElem? e
      simp only [fix2,List.mem_cons] at hm
      rcases hm with z | z | z
      . subst z; cases hb
      . subst z; cases hb
      . exact nf r z b hb
structure Slimmed (ins:Nat) (rows:List Row) (outs:List Int) (d:Nat) (rows2:List Row) (outs2:List Int):Prop where
  rk:RowsOk ins rows2
  ok:∀ a ∈ outs2,0 <= a /\ a < ((ins + rows2.length:Nat):Int)
  ol:outs2.length=outs.length
  tb:outs2.map (nth (Z03 ins rows2 .none))=outs.map (nth (Z03 ins rows .none))
  le:rows2.length <= rows.length
  lg:Z3f rows2 + d <= Z3f rows
  nd:∀ k,k < rows2.length -> ((ins + k:Nat):Int) ∈ Z0G ins rows2 outs2
theorem SP.outs {ins:Nat} {rows:List Row} {outs:List Int} {f:Flt} {kv:List (Int × Int)} {R:List Row} {P:List Int} (h:SP ins rows f P kv R) (hP:∀ a ∈ outs,a ∈ P) {g:Int -> Int} (hg:∀ t ∈ keys kv,(t,g t) ∈ kv) :
    ∀ a ∈ outs.map (fun a=>g (nth (Z03 ins rows f) a)),0 <= a /\ a < ((ins + (fix2 R).length:Nat):Int):=fun a ha=>by
  obtain ⟨c,hc,rfl⟩:=List.mem_map.mp ha
  have:=(h.b _ (hg _ (h.dn c (hP c hc)))).1
  rw [Z2W]
  show 0 <= g (nth (Z03 ins rows f) c) /\ g (nth (Z03 ins rows f) c) < _
  have e:ins + (R.length + 2)=ins + 2 + R.length:=by omega
  rw [e]; exact this
theorem SP.done {ins:Nat} {rows:List Row} {outs:List Int} {f:Flt} {kv:List (Int × Int)} {R:List Row} (hr:RowsOk ins rows) (ho:∀ a ∈ outs,0 <= a /\ a < ((ins + rows.length:Nat):Int)) (h:SP ins rows f (Z0G ins rows outs) kv R) (hid:∀ a ∈ outs,nth (Z03 ins rows f) a=nth (Z03 ins rows .none) a) {g:Int -> Int} (hg:∀ t ∈ keys kv,(t,g t) ∈ kv) {outs':List Int} (e':outs'=outs.map fun a=>g (nth (Z03 ins rows f) a)) :
    Slimmed ins rows outs ((Z0G ins rows outs).filter (lose ins rows f)).length (Z1D ins (fix2 R) outs') (outs'.map (plN ins (fix2 R) outs')):=by
  have o':=h.outs (fun a ha=>Z1H hr ho ha) hg
  rw [<- e'] at o'
  have dn:∀ a ∈ outs,nth (Z03 ins (fix2 R) .none) (g (nth (Z03 ins rows f) a))=nth (Z03 ins rows f) a:=fun a ha=>(h.b _ (hg _ (h.dn a (Z1H hr ho ha)))).2
  refine ⟨Z4U h.ok o',Z6t h.ok o',by rw [List.length_map,e',List.length_map],?_,?_,?_,fun k hk=>Z9T h.ok o' hk⟩
  . rw [Z81 h.ok o',e',List.map_map]
    exact List.map_congr_left fun a ha=>(dn a ha).trans (hid a ha)
  . rw [Z3O h.ok o']
    have step:=ZaS (A:=(ins:Int)) (m:=R.length) (Z6B h.ok o') (fun a ha=>by
      have h1:=(Z1k h.ok o').mp ha
      have h2:=Z12 h.ok o' a h1.1
      rw [Z2W] at h2
      omega)
    have bk:∀ (A v:Int),(A=(ins:Int) \/ A=(ins:Int) + 1) -> nth (Z03 ins (fix2 R) .none) A=v -> (v=0 \/ v=Z09 (2 ^ ins)) -> A ∈ Z33 ins (fix2 R) outs' -> 1 <= ((Z0G ins rows outs).filter fun w=>decide ((ins:Int) <= w) && decide (nth (Z03 ins rows f) w=v)).length:=by
      intro A v hA hv hvv hm
      have hin:A ∈ outs':=by
        have:=(Z2o h.ok o').least (fun a=>a=A -> A ∈ outs') (fun a ha z=>z ▸ ha) (fun a _ b hb z=>by
          have:=Z9G h.nf hb
          rcases hA with q | q <;> (rw [q] at z; exact absurd z (by omega)))
        exact this A (mem_needV.mp ((Z1k h.ok o').mp hm).1) rfl
      rw [e'] at hin
      obtain ⟨a,ha,ea⟩:=List.mem_map.mp hin
      have ev:nth (Z03 ins rows f) a=v:=by rw [<- dn a ha]; show nth _ (g _)=v; rw [ea]; exact hv
      refine Z5h (Z1H hr ho ha) ?_
      rw [ev]
      have h0:=ho a ha
      by_cases hi:a < (ins:Int)
      . exfalso
        have hi':a.toNat < ins:=by omega
        have q1:=Z1A (Z24 (rows:=rows) (f:=.none) hi') (a:=a) (by omega)
        rw [<- hid a ha,ev] at q1
        have q2:=Zb4 hi'
        have q3:v=tab (2 ^ ins) fun g=>decide (g / 2 ^ a.toNat % 2=1):=q1
        rw [<- q3] at q2
        rcases hvv with z | z
        . exact q2.1 z
        . exact q2.2 z
      . simp; omega
    have b0:=bk (ins:Int) 0 (.inl rfl) (Z5R h.ok) (.inl rfl)
    have b1:=bk ((ins:Int) + 1) _ (.inr rfl) (Z5Q h.ok) (.inr rfl)
    have c:=h.cnt
    have fp:=Z5P ins
    have s3:=ZcQ (p:=fun w=>decide ((ins:Int) <= w)) (p1:=Zbh ins rows f) (p2:=fun w=>decide ((ins:Int) <= w) && decide (nth (Z03 ins rows f) w=0)) (p3:=fun w=>decide ((ins:Int) <= w) && decide (nth (Z03 ins rows f) w=Z09 (2 ^ ins))) (fun a=>by
      unfold Zbh fx
      by_cases h1:(ins:Int) <= a
      . by_cases h2:nth (Z03 ins rows f) a=0
        . have:¬ (0:Int)=Z09 (2 ^ ins):=by omega
          simp [h1,h2,this]
        . by_cases h3:nth (Z03 ins rows f) a=Z09 (2 ^ ins) <;> simp [h1,h2,h3]
          omega
      . simp [h1]) (Z0G ins rows outs)
    have rl:=Z7k hr ho
    unfold Z33 at rl
    split at step
    . rename_i z0
      have:=b0 z0
      split at step
      . rename_i z1
        have:=b1 z1
        omega
      . omega
    . split at step
      . rename_i z1
        have:=b1 z1
        omega
      . omega
  . have l1:=Z9U h.ok o'
    have l2:=h.lg
    have l3:=Z7A hr ho
    have l4:Z3f (fix2 R)=Z3f R:=by simp [Z3f,fix2,Row.ws]
    omega
theorem Ze7 {ins:Nat} {rows:List Row} {outs:List Int} {f:Flt} (hr:RowsOk ins rows) (ho:∀ a ∈ outs,0 <= a /\ a < ((ins + rows.length:Nat):Int)) (hf:f ∈ Z23 ins rows outs) (hid:∀ a ∈ outs,nth (Z03 ins rows f) a=nth (Z03 ins rows .none) a):1 <= ((Z0G ins rows outs).filter (lose ins rows f)).length:=by
  obtain ⟨w,hw,hin⟩:=List.mem_flatMap.mp hf
  have hb:=Z12 hr ho w hw
  have fp:=Z5P ins
  unfold Z0K at hin
  rcases List.mem_append.mp hin with z | z
  . obtain ⟨b,hb',rfl⟩:=List.mem_map.mp z
    have hbt:=Z4E hr hb'
    have hVw:nth (Z03 ins rows (.wire w b)) w=Z09 (2 ^ ins) * b:=by
      by_cases hi:w < (ins:Int)
      . have hi':w.toNat < ins:=by omega
        have q1:=Z1A (Z24 (rows:=rows) (f:=.wire w b) hi') (a:=w) (by omega)
        rw [q1]
        exact if_pos (by omega)
      . have hk:(w - (ins:Int)).toNat < rows.length:=by omega
        have q1:=Z25 (f:=.wire w b) hr (List.getElem?_eq_getElem hk)
        rw [show ((ins + (w - (ins:Int)).toNat:Nat):Int)=w by omega] at q1
        rw [q1]
        exact if_pos rfl
    have hfx:fx (Z09 (2 ^ ins)) (Z09 (2 ^ ins) * b)=true:=by
      rw [Zd6]
      rcases hbt with q | q <;> rw [q]
      . left; omega
      . right; omega
    by_cases hl:Z0g ins rows w=[]
    . -- an input or a fix wire: it is no out,so a row goes by it
      have hno:w ∉ outs:=by
        intro hw2
        have e:=hid w hw2
        rw [hVw] at e
        by_cases hi:w < (ins:Int)
        . have hi':w.toNat < ins:=by omega
          have q1:=Z1A (Z24 (rows:=rows) (f:=.none) hi') (a:=w) (by omega)
          have q2:=Zb4 hi'
          rw [show nth (Z03 ins rows .none) w=tab (2 ^ ins) fun g=>decide (g / 2 ^ w.toNat % 2=1) from q1] at e
          rw [<- e] at q2
          rcases hbt with q | q
          . rw [q] at q2; exact q2.1 (by omega)
          . rw [q] at q2; exact q2.2 (by omega)
        . have hk:(w - (ins:Int)).toNat < rows.length:=by omega
          have hg:=List.getElem?_eq_getElem hk
          generalize rows[(w - (ins:Int)).toNat]=r at hg
          have q1:=Z25 (f:=.none) hr hg
          rw [show ((ins + (w - (ins:Int)).toNat:Nat):Int)=w by omega] at q1
          rw [Z0Y (by omega) hg] at hl
          cases r with
          | fix c =>
            rw [show nth (Z03 ins rows .none) w=Z09 (2 ^ ins) * c from q1] at e
            have hc:=hr _ _ hg
            unfold Z1n at hb'
            rw [if_neg hi,hg] at hb'
            have:b=1 - c:=by simpa using hb'
            rcases (show c=0 \/ c=1 from hc) with q | q
            . rw [this,q] at e; omega
            . rw [this,q] at e; omega
          | not a=>cases hl
          | bin _ a c=>cases hl
      have hex:∃ w2 ∈ Z0G ins rows outs,w ∈ Z0g ins rows w2:=by
        have:=(Z2o hr ho).least (fun a=>a ∈ Z0G ins rows outs /\ (a=w -> ∃ w2 ∈ Z0G ins rows outs,w ∈ Z0g ins rows w2)) (fun a ha=>⟨Z1H hr ho ha,fun z=>absurd (z ▸ ha) hno⟩) (fun a h1 c hc=>⟨Z3U hr ho h1.1 hc,fun z=>⟨a,h1.1,z ▸ hc⟩⟩)
        exact (this w (mem_needV.mp hw)).2 rfl
      obtain ⟨w2,hw2,hm⟩:=hex
      refine Z5h hw2 ?_
      have hi:¬ w2 < (ins:Int):=fun z=>by rw [Z2d z] at hm; cases hm
      have hb2:=Z12 hr ho w2 hw2
      have hk:(w2 - (ins:Int)).toNat < rows.length:=by omega
      have hg:=List.getElem?_eq_getElem hk
      generalize rows[(w2 - (ins:Int)).toNat]=r at hg
      rw [Z0Y (by omega) hg] at hm
      unfold lose
      rw [Z0Y (by omega) hg,Bool.and_eq_true]
      refine ⟨decide_eq_true (List.ne_nil_of_mem hm),?_⟩
      rw [Bool.or_eq_true]
      right
      unfold lgAt
      rw [hg]
      refine List.any_eq_true.mpr ⟨Z09 (2 ^ ins) * b,?_,hfx⟩
      show _ ∈ r.ws.map (nth (Z03 ins rows (.wire w b)))
      exact List.mem_map.mpr ⟨w,hm,hVw⟩
    . refine Z5h hw ?_
      unfold lose
      rw [hVw,hfx,decide_eq_true hl]; rfl
  . obtain ⟨j,a,b,h1,h2,rfl⟩:=Z3g z
    have hbt:=Z4E hr h2
    refine Z5h hw ?_
    have hm:=List.mem_of_getElem? h1
    have hi:¬ w < (ins:Int):=fun z=>by rw [Z2d z] at hm; cases hm
    have hk:(w - (ins:Int)).toNat < rows.length:=by omega
    have hg:=List.getElem?_eq_getElem hk
    generalize rows[(w - (ins:Int)).toNat]=r at hg
    rw [Z0Y (by omega) hg] at h1 hm
    have hj:=(List.getElem?_eq_some_iff.mp h1).1
    unfold lose
    rw [Z0Y (by omega) hg,Bool.and_eq_true]
    refine ⟨decide_eq_true (List.ne_nil_of_mem hm),?_⟩
    rw [Bool.or_eq_true]
    right
    unfold lgAt
    rw [hg]
    refine List.any_eq_true.mpr ⟨Z09 (2 ^ ins) * b,?_,by
      rw [Zd6]
      rcases hbt with q | q <;> rw [q]
      . left; omega
      . right; omega⟩
    unfold legs
    simp only [if_true]
    have hj2:((0 + j:Nat):Int).toNat=j:=by omega
    rw [hj2]
    exact List.mem_of_getElem? (i:=j) (by rw [List.getElem?_set_self (by rw [List.length_map]; exact hj)])
noncomputable def DI (kv:List (Int × Int)):D:=.dk (kv.map fun p=>(Sum.inl p.1:Key)) (kv.map fun p=>D.int p.2)
noncomputable def lk:List (Int × Int) -> Int -> Int
  | [],_=>0
  | p :: r,t=>if p.1=t then p.2 else lk r t
theorem Z7E:∀ {kv:List (Int × Int)} {t:Int},t ∈ keys kv -> (t,lk kv t) ∈ kv
  | [],t,h=>by cases h
  | p :: r,t,h=>by
    by_cases hp:p.1=t
    . simp only [lk,hp,if_true]
      have:(t,p.2)=p:=by rw [<- hp]
      rw [this]; exact List.mem_cons_self
    . simp only [lk,hp,if_false]
      refine List.mem_cons_of_mem _ (Z7E ?_)
      simp only [keys,List.map_cons,List.mem_cons] at h
      exact h.resolve_left fun z=>hp z.symm
theorem Z8Z:∀ {kv:List (Int × Int)} {t:Int},t ∈ keys kv -> Z3i (kv.map fun p=>(Sum.inl p.1:Key)) (kv.map fun p=>D.int p.2) (Sum.inl t:Key)=some (.int (lk kv t))
  | [],t,h=>by cases h
  | p :: r,t,h=>by
    by_cases hp:p.1=t
    . simp only [List.map_cons,Z3i,lk,hp,if_true]
    . have hp':¬ (Sum.inl p.1:Key)=Sum.inl t:=fun z=>hp (Sum.inl.inj z)
      simp only [List.map_cons,Z3i,lk,hp,hp',if_false]
      refine Z8Z ?_
      simp only [keys,List.map_cons,List.mem_cons] at h
      exact h.resolve_left fun z=>hp z.symm
theorem mem_DI {kv:List (Int × Int)} {t:Int}:(Sum.inl t:Key) ∈ (kv.map fun p=>(Sum.inl p.1:Key)) ↔ t ∈ keys kv:=by
  simp [keys]
theorem Ze4 {kv:List (Int × Int)} {t:Int}:memK (Sum.inl t:Key) (kv.map fun p=>(Sum.inl p.1:Key))=decide (t ∈ keys kv):=by
  unfold memK; exact decide_eq_decide.mpr mem_DI
theorem Z40 {fa fb:En -> Option D} {env:En} {kv:List (Int × Int)} {t:Int} (ha:fa env=some (DI kv)) (hb:fb env=some (.int t)) (h:t ∈ keys kv):Z4f fa fb env=some (.int (lk kv t)):=by
  rw [ev_DGet,ha,hb]
  simp only [DI,keyOf,Z8Z h,PD.flat,if_true]
theorem Zbm {fa fb:En -> Option D} {env:En} {kv:List (Int × Int)} {t:Int} (ha:fa env=some (.int t)) (hb:fb env=some (DI kv)):fInK fa fb env=some (decide (t ∈ keys kv)):=by
  rw [ev_InK,ha,hb]
  simp only [DI,keyOf,Ze4]
noncomputable def putP (kv:List (Int × Int)) (t v:Int):List (Int × Int):=if t ∈ keys kv then kv.map (fun p=>if p.1=t then (p.1,v) else p) else kv ++ [(t,v)]
theorem Zc2 {kv:List (Int × Int)} {t v:Int} (h:t ∉ keys kv):putP kv t v=kv ++ [(t,v)]:=if_neg h
theorem Z6E {kv:List (Int × Int)} {t v:Int}:(putP kv t v).length <= kv.length + 1:=by unfold putP; split <;> simp
theorem putP_keys {kv:List (Int × Int)} {t v a:Int}:a ∈ keys (putP kv t v) ↔ a ∈ keys kv \/ a=t:=by
  unfold putP
  split
  . rename_i h
    have e:keys (kv.map fun p=>if p.1=t then (p.1,v) else p)=keys kv:=by
      unfold keys
      rw [List.map_map]
      refine List.map_congr_left fun p _=>?_
      simp only [Function.comp]
      split <;> rfl
    rw [e]
    exact ⟨.inl,fun z=>z.elim id fun z=>z ▸ h⟩
  . exact keys_snoc
theorem Z5f {P:Int -> Int -> Prop} {kv:List (Int × Int)} {t v:Int} (h:∀ p ∈ kv,P p.1 p.2) (k:P t v):∀ p ∈ putP kv t v,P p.1 p.2:=by
  intro p hp
  unfold putP at hp
  split at hp
  . obtain ⟨q,hq,rfl⟩:=List.mem_map.mp hp
    split
    . rename_i e
      show P q.1 v
      rw [e]; exact k
    . exact h q hq
  . rcases List.mem_append.mp hp with z | z
    . exact h p z
    . have:p=(t,v):=by simpa using z
      rw [this]; exact k
theorem ZcN {t v:Int}:∀ {kv:List (Int × Int)},List.zipWith (fun (k':Key) (y:D)=>if k'=(Sum.inl t:Key) then D.int v else y) (kv.map fun p=>(Sum.inl p.1:Key)) (kv.map fun p=>D.int p.2)=(kv.map (fun p=>if p.1=t then (p.1,v) else p)).map fun p=>D.int p.2
  | []=>rfl
  | p :: r=>by
    have ih:=ZcN (t:=t) (v:=v) (kv:=r)
    simp only [List.map_cons,List.zipWith_cons_cons,ih]
    congr 1
    by_cases hp:p.1=t
    . have hp':(Sum.inl p.1:Key)=Sum.inl t:=congrArg _ hp
      rw [if_pos hp',if_pos hp]
    . have hp':¬ (Sum.inl p.1:Key)=Sum.inl t:=fun z=>hp (Sum.inl.inj z)
      rw [if_neg hp',if_neg hp]
theorem ZfN {kv:List (Int × Int)} {t v:Int}:(D.dk (putN (kv.map fun p=>(Sum.inl p.1:Key)) (Sum.inl t:Key)) (putZ (kv.map fun p=>(Sum.inl p.1:Key)) (kv.map fun p=>D.int p.2) (Sum.inl t:Key) (.int v)))=DI (putP kv t v):=by
  unfold putN putZ putP DI
  by_cases h:t ∈ keys kv
  . rw [if_pos (mem_DI.mpr h),if_pos (mem_DI.mpr h),if_pos h,ZcN]
    congr 1
    rw [List.map_map]
    refine List.map_congr_left fun p _=>?_
    simp only [Function.comp]
    split <;> rfl
  . rw [if_neg (fun z=>h (mem_DI.mp z)),if_neg (fun z=>h (mem_DI.mp z)),if_neg h,List.map_append,List.map_append]
    rfl
theorem Zcz (kv:List (Int × Int)):Z1m (kv.map fun p=>D.int p.2)=true:=Z37 fun d hd=>by
  obtain ⟨_,_,rfl⟩:=List.mem_map.mp hd; rfl
theorem Z5e {i:Nat} {fk fv:En -> Option D} {env:En} {kv:List (Int × Int)} {t v:Int} (hv:fv env=some (.int v)) (hi:env[i]? = some (some (true,DI kv))) (hk:fk env=some (.int t)) (hl:kv.length < 1000) :
    Z49 i fk fv env=.next (env.set i (some (true,DI (putP kv t v)))):=by
  rw [<- ZfN]
  unfold Z49
  rw [hv,hi,hk]
  simp only [DI,keyOf,Zcz,PD.flat,List.length_map,hl,and_self,if_true]
theorem Zci {g h:Int -> Int} {r:Row} (e:∀ a ∈ r.ws,g a=h a):r.mv g=r.mv h:=by
  cases r with
  | fix b=>rfl
  | not a=>show Row.not (g a)=Row.not (h a); rw [e a (by simp [Row.ws])]
  | bin k a b=>show Row.bin k (g a) (g b)=Row.bin k (h a) (h b); rw [e a (by simp [Row.ws]),e b (by simp [Row.ws])]
theorem s_nx:((Str.ofString "not") == (Str.ofString "xor"))=false:=by decide +kernel
theorem s_kx (k:Kd):(k.s == (Str.ofString "xor"))=decide (k=.xor):=by cases k <;> decide +kernel
noncomputable def top (i:Nat):Stmt:=PySem.Challenge.pw_stuckwire_k31_lean_of_doubled_circuits.main.body.getD i (.Pass ⟨0,0,0,0⟩)
noncomputable abbrev Z17:Stmt:=top 11
noncomputable abbrev Z1q:Stmt:=top 10
noncomputable abbrev Z16:Stmt:=top 9
noncomputable abbrev Z28:Stmt:=top 8
noncomputable abbrev Z3e:Stmt:=top 7
noncomputable abbrev Z18:Stmt:=top 5
noncomputable abbrev Z0Q:Stmt:=top 6
noncomputable abbrev Z1Z:Stmt:=top 2
noncomputable abbrev Z2a:Stmt:=top 4
noncomputable abbrev Z0L:Stmt:=top 3
noncomputable abbrev Z15:Stmt:=top 15
noncomputable abbrev Z2A:Stmt:=top 13
noncomputable abbrev Z0J:Stmt:=top 16
noncomputable abbrev Z1a:Stmt:=top 14
noncomputable abbrev Z1u:Stmt:=top 17
noncomputable abbrev Z19:Stmt:=top 20
noncomputable abbrev Z3c:Stmt:=top 24
noncomputable abbrev Z0P:Stmt:=top 23
noncomputable abbrev Z1p:Stmt:=top 22
noncomputable abbrev Z0I:Stmt:=top 21
noncomputable abbrev Z4n:Stmt:=top 19
noncomputable abbrev Z29:Stmt:=top 26
noncomputable abbrev Z3d:Stmt:=top 27
noncomputable abbrev Z1s:Stmt:=top 28
noncomputable abbrev Z2B:Stmt:=top 29
noncomputable abbrev Z1O:Stmt:=top 30
noncomputable abbrev Z1L:Stmt:=top 31
noncomputable abbrev Z1r:Stmt:=top 32
noncomputable abbrev Z2D:Stmt:=top 33
noncomputable abbrev Z1M:Stmt:=top 34
noncomputable abbrev Z1t:Stmt:=top 35
noncomputable abbrev Z1N:Stmt:=top 36
noncomputable abbrev Z1P:Stmt:=top 37
noncomputable abbrev Z2E:Stmt:=top 38
noncomputable abbrev Z2C:Stmt:=top 39
noncomputable abbrev Z57:Stmt:=top 40
noncomputable abbrev Z0R:Stmt:=Zeb (top 1) 0
noncomputable def Z1d (C:Addr):List D -> Option D:=fun ds=>match ds with
  | [i,r,o]=>match (Z0n (fVar 1)) [none,some (false,i),some (false,r),some (false,o)],(Z1E [] (fSeq (fVar 2)) fTT (fB1 Z55 (Z02 (fVar 0) fNil))) [none,some (false,i),some (false,r),some (false,o)],(fB1 Z4F (Z02 (fVar 3) fNil)) [none,some (false,i),some (false,r),some (false,o)] with
    | some a,some b,some c=>some (.obj C ["ins","rows","outs"] [a,b,c])
    | _,_,_=>none
  | _=>none
noncomputable def Z2V (C:Addr):En -> Res :=
    (rSeq (rSet 3 (Z0n (fIx (fVar 0) (fC (.int 0)))))
    (rSeq (rIf (fEq (fVar 3) (fC (.str "fix"))) (rRet (fI2 IntMulOk (fun i j=>.int (i * j)) (fVar 2) (fIx (fVar 0) (fC (.int 1))))) Z11)
    (rSeq (rIf (fEq (fVar 3) (fC (.str "not"))) (rRet (fI0 (fun i j=>.int (Builtin.bitXor i j)) (fVar 2) (fIx (fVar 1) (fC (.int 0))))) Z11)
    (rSeq (rIf (fEq (fVar 3) (fC (.str "and"))) (rRet (fI0 (fun i j=>.int (Builtin.bitAnd i j)) (fIx (fVar 1) (fC (.int 0))) (fIx (fVar 1) (fC (.int 1))))) Z11)
    (rSeq (rIf (fEq (fVar 3) (fC (.str "or"))) (rRet (fI0 (fun i j=>.int (Builtin.bitOr i j)) (fIx (fVar 1) (fC (.int 0))) (fIx (fVar 1) (fC (.int 1))))) Z11)
    (rRet (fI0 (fun i j=>.int (Builtin.bitXor i j)) (fIx (fVar 1) (fC (.int 0))) (fIx (fVar 1) (fC (.int 1))))))))))
noncomputable def Z0X (C:Addr):List D -> Option D:=runF 4 (Z2V C)
noncomputable def Z3j (C:Addr):En -> Res :=
    (rSeq (rIf (fEq (fIx (fVar 0) (fC (.int 0))) (fC (.str "fix"))) (rRet (fLst fNil)) Z11)
    (rRet (fB1 Z4F (Z02 (fSl (fVar 0) (fP (fC (.int 1))) fNoP) fNil))))
noncomputable def Z0C (C:Addr):List D -> Option D:=runF 1 (Z3j C)
noncomputable def Z2s (C:Addr):En -> Res :=
    (rSeq (rSet 5 (Z1E [2] (fSeq (Z0f (Z0C C) [] (Z02 (fVar 0) fNil))) fTT (Z0n (fIx (fVar 1) (fVar 0)))))
    (rSeq (rIf (fAnd (fIsN true (fVar 4)) (fAnd (fEq (fIx (fVar 4) (fC (.int 0))) (fC (.str "leg"))) (fEq (fIx (fVar 4) (fC (.int 1))) (fVar 1)))) (rPut 5 (fIx (fVar 4) (fC (.int 2))) (fI2 IntMulOk (fun i j=>.int (i * j)) (fVar 3) (fIx (fVar 4) (fC (.int 3))))) Z11)
    (Z4I 5)))
noncomputable def Z0E (C:Addr):List D -> Option D:=runF 6 (Z2s C)
noncomputable def Z3N (C:Addr):En -> Res :=
    (rSeq (rIf (fAnd (fIsN true (fVar 3)) (fAnd (fEq (fIx (fVar 3) (fC (.int 0))) (fC (.str "wire"))) (fEq (fIx (fVar 3) (fC (.int 1))) (fVar 1)))) (rRet (fI2 IntMulOk (fun i j=>.int (i * j)) (fVar 2) (fIx (fVar 3) (fC (.int 2))))) Z11)
    (rRet (Z0n (fVar 0))))
noncomputable def Z1x (C:Addr):List D -> Option D:=runF 4 (Z3N C)
noncomputable def Zbb (C:Addr):En -> Res :=
    (rSeq (rSet 4 (fLst fNil))
    (rSeq (rFor [1] (fSeq (fVar 1)) (gtN 5) (rApp 4 (Z0f (Z1x C) [] (Z02 (fVar 5) (Z02 (fB1 FLen (Z02 (fVar 4) fNil)) (Z02 (fVar 2) (Z02 (fVar 3) fNil)))))))
    (rSeq (rFor [0] (fSeq (fFld C "rows" (fVar 0))) (gtN 6) (rSeq (rSet 7 (fB1 FLen (Z02 (fVar 4) fNil)))
    (rSeq (rSet 8 (Z0f (Z0E C) [] (Z02 (fVar 6) (Z02 (fVar 7) (Z02 (fVar 4) (Z02 (fVar 2) (Z02 (fVar 3) fNil)))))))
    (rApp 4 (Z0f (Z1x C) [] (Z02 (Z0f (Z0X C) [] (Z02 (fVar 6) (Z02 (fVar 8) (Z02 (fVar 2) fNil)))) (Z02 (fVar 7) (Z02 (fVar 2) (Z02 (fVar 3) fNil)))))))))
    (Z4I 4))))
noncomputable def Z4O (C:Addr):List D -> Option D:=runF 9 (Zbb C)
noncomputable def Z51 (C:Addr):En -> Res :=
    (rRet (fI0 (fun i j=>.int (i - j)) (fI2 CShl (fun i j=>.int (i * 2 ^ j.toNat)) (fC (.int 1)) (fI2 CShl (fun i j=>.int (i * 2 ^ j.toNat)) (fC (.int 1)) (fVar 0))) (fC (.int 1))))
noncomputable def Z0T (C:Addr):List D -> Option D:=runF 1 (Z51 C)
noncomputable def Z46 (C:Addr):En -> Res :=
    (rSeq (rSet 1 (fLst fNil))
    (rSeq (rFor [] (sB1 Z4h (Z02 (fVar 0) fNil)) (gtN 2) (rSeq (rSet 3 (fI2 CShl (fun i j=>.int (i * 2 ^ j.toNat)) (fC (.int 1)) (fVar 2)))
    (rSeq (rSet 1 (Z1E [3] (fSeq (fVar 1)) fTT (fI0 (fun i j=>.int (Builtin.bitOr i j)) (fVar 0) (fI2 CShl (fun i j=>.int (i * 2 ^ j.toNat)) (fVar 0) (fVar 1)))))
    (rApp 1 (fI2 CShl (fun i j=>.int (i * 2 ^ j.toNat)) (Z0f (Z0T C) [] (Z02 (fVar 2) fNil)) (fVar 3))))))
    (Z4I 1)))
noncomputable def Z0W (C:Addr):List D -> Option D:=runF 4 (Z46 C)
noncomputable def Zcy (C:Addr):En -> Res :=
    (rRet (Z0f (Z4O C) [] (Z02 (fVar 0) (Z02 (Z0f (Z0W C) [] (Z02 (fFld C "ins" (fVar 0)) fNil)) (Z02 (Z0f (Z0T C) [] (Z02 (fFld C "ins" (fVar 0)) fNil)) (Z02 (fVar 1) fNil))))))
noncomputable def Z2F (C:Addr):List D -> Option D:=runF 2 (Zcy C)
noncomputable def Zbc (C:Addr):En -> Res :=
    (rRet (Z1E [1] (fSeq (fFld C "outs" (fVar 0))) fTT (Z0n (fIx (fVar 1) (fVar 0)))))
noncomputable def Z35 (C:Addr):List D -> Option D:=runF 2 (Zbc C)
noncomputable def Z7L (C:Addr):En -> Res :=
    (rRet (Z0f (Z35 C) [] (Z02 (fVar 0) (Z02 (Z0f (Z2F C) [] (Z02 (fVar 0) (Z02 (fVar 1) fNil))) fNil))))
noncomputable def Z0S (C:Addr):List D -> Option D:=runF 2 (Z7L C)
noncomputable def Z3M (C:Addr):En -> Res :=
    (rSeq (rIf (fBI (fun i j=>decide (i < j)) (fVar 1) (fFld C "ins" (fVar 0))) (rRet (fLst fNil)) Z11)
    (rRet (Z0f (Z0C C) [] (Z02 (fIx (fFld C "rows" (fVar 0)) (fI0 (fun i j=>.int (i - j)) (fVar 1) (fFld C "ins" (fVar 0)))) fNil))))
noncomputable def Z0M (C:Addr):List D -> Option D:=runF 2 (Z3M C)
noncomputable def Z90 (C:Addr):En -> Res :=
    (rSeq (rSet 1 (fC (.dk [] [])))
    (rSeq (rFor [0] (fSeq (fFld C "outs" (fVar 0))) (gtN 2) (Z49 1 (fVar 2) (fC (.bl true))))
    (rSeq (rFor [] (sB1 ZbK (Z02 (fI0 (fun i j=>.int (i - j)) (fI0 (fun i j=>.int (i + j)) (fFld C "ins" (fVar 0)) (fB1 FLen (Z02 (fFld C "rows" (fVar 0)) fNil))) (fC (.int 1))) (Z02 (fI0 (fun i j=>.int (i - j)) (fFld C "ins" (fVar 0)) (fC (.int 1))) (Z02 (fC (.int (-1))) fNil)))) (gtN 3) (rIf (fInK (fVar 3) (fVar 1)) (rFor [] (fSeq (Z0f (Z0M C) [] (Z02 (fVar 0) (Z02 (fVar 3) fNil)))) (gtN 4) (Z49 1 (fVar 4) (fC (.bl true)))) Z11))
    (rRet (fB1 Z9h (Z02 (fVar 1) fNil))))))
noncomputable def Z2p (C:Addr):List D -> Option D:=runF 5 (Z90 C)
noncomputable def Z2P (C:Addr):En -> Res :=
    (rSeq (rIf (fAnd (fBI (fun i j=>decide (j <= i)) (fVar 1) (fFld C "ins" (fVar 0))) (fEq (fIx (fIx (fFld C "rows" (fVar 0)) (fI0 (fun i j=>.int (i - j)) (fVar 1) (fFld C "ins" (fVar 0)))) (fC (.int 0))) (fC (.str "fix")))) (rRet (fLst (Z02 (fI0 (fun i j=>.int (i - j)) (fC (.int 1)) (fIx (fIx (fFld C "rows" (fVar 0)) (fI0 (fun i j=>.int (i - j)) (fVar 1) (fFld C "ins" (fVar 0)))) (fC (.int 1)))) fNil))) Z11)
    (rRet (fLst (Z02 (fC (.int 0)) (Z02 (fC (.int 1)) fNil)))))
noncomputable def Z0k (C:Addr):List D -> Option D:=runF 2 (Z2P C)
noncomputable def Z53 (C:Addr):En -> Res :=
    (rSeq (rSet 1 (fLst fNil))
    (rSeq (rFor [] (fSeq (Z0f (Z2p C) [] (Z02 (fVar 0) fNil))) (gtN 2) (rSeq (rFor [] (fSeq (Z0f (Z0k C) [] (Z02 (fVar 0) (Z02 (fVar 2) fNil)))) (gtN 3) (rApp 1 (fTup (Z02 (fC (.str "wire")) (Z02 (Z0n (fVar 2)) (Z02 (Z0n (fVar 3)) fNil))))))
    (rFor [] (sB1 Z4i (Z02 (Z0f (Z0M C) [] (Z02 (fVar 0) (Z02 (fVar 2) fNil))) fNil)) (gtT [4,5]) (rFor [] (fSeq (Z0f (Z0k C) [] (Z02 (fVar 0) (Z02 (fVar 5) fNil)))) (gtN 3) (rApp 1 (fTup (Z02 (fC (.str "leg")) (Z02 (Z0n (fVar 2)) (Z02 (Z0n (fVar 4)) (Z02 (Z0n (fVar 3)) fNil))))))))))
    (Z4I 1)))
noncomputable def Z27 (C:Addr):List D -> Option D:=runF 6 (Z53 C)
noncomputable def Z5O (C:Addr):En -> Res :=
    (rSeq (rSet 2 (fC (.int 0)))
    (rSeq (rFor [0,1] (sB1 FZip (Z02 (fVar 0) (Z02 (fVar 1) fNil))) (gtT [3,4]) (rSet 2 (fI0 (fun i j=>.int (Builtin.bitOr i j)) (fVar 2) (fI0 (fun i j=>.int (Builtin.bitXor i j)) (fVar 3) (fVar 4)))))
    (rRet (Z0n (fVar 2)))))
noncomputable def Z1w (C:Addr):List D -> Option D:=runF 5 (Z5O C)
noncomputable def Z52 (C:Addr):En -> Res :=
    (rSeq (rSet 1 (Z0f (Z0S C) [.non] (Z02 (fVar 0) fNil)))
    (rSeq (rFor [] (fSeq (Z0f (Z27 C) [] (Z02 (fVar 0) fNil))) (gtN 2) (rIf (fEq (Z0f (Z1w C) [] (Z02 (fVar 1) (Z02 (Z0f (Z0S C) [] (Z02 (fVar 0) (Z02 (fVar 2) fNil))) fNil))) (fC (.int 0))) (rRet (Z0n (fVar 2))) Z11))
    (rRet (fC .non))))
noncomputable def Z1J (C:Addr):List D -> Option D:=runF 3 (Z52 C)
noncomputable def Z8p (C:Addr):En -> Res :=
    (rSeq (rIf (fEq (fIx (fVar 0) (fC (.int 0))) (fC (.str "fix"))) (rRet (Z0n (fVar 0))) Z11)
    (rRet (fB1 Z55 (Z02 (fCat (fLst (Z02 (Z0n (fIx (fVar 0) (fC (.int 0)))) fNil)) (Z1E [1] (fSeq (Z0f (Z0C C) [] (Z02 (fVar 0) fNil))) fTT (Z4f (fVar 1) (fVar 0)))) fNil))))
noncomputable def Z4c (C:Addr):List D -> Option D:=runF 2 (Z8p C)
noncomputable def Z45 (C:Addr):En -> Res :=
    (rSeq (rSet 1 (fC (.dk [] [])))
    (rSeq (rFor [] (sB1 Z4h (Z02 (fFld C "ins" (fVar 0)) fNil)) (gtN 2) (Z49 1 (fVar 2) (fVar 2)))
    (rSeq (rSet 3 (fLst fNil))
    (rSeq (rFor [] (fSeq (Z0f (Z2p C) [] (Z02 (fVar 0) fNil))) (gtN 2) (rIf (fBI (fun i j=>decide (j <= i)) (fVar 2) (fFld C "ins" (fVar 0))) (rSeq (Z49 1 (fVar 2) (fI0 (fun i j=>.int (i + j)) (fFld C "ins" (fVar 0)) (fB1 FLen (Z02 (fVar 3) fNil))))
    (rApp 3 (Z0f (Z4c C) [] (Z02 (fIx (fFld C "rows" (fVar 0)) (fI0 (fun i j=>.int (i - j)) (fVar 2) (fFld C "ins" (fVar 0)))) (Z02 (fVar 1) fNil))))) Z11))
    (rRet (fB1 (Z1d C) (Z02 (fFld C "ins" (fVar 0)) (Z02 (fVar 3) (Z02 (Z1E [1] (fSeq (fFld C "outs" (fVar 0))) fTT (Z4f (fVar 1) (fVar 0))) fNil)))))))))
noncomputable def Z1z (C:Addr):List D -> Option D:=runF 4 (Z45 C)
noncomputable def Z2O (C:Addr):En -> Res :=
    (rSeq (rIf (fAnd (fEq (fVar 0) (fC (.str "xor"))) (fIn (fVar 2) (fVar 1))) (rRet (fTup (Z02 (fC (.str "not")) (Z02 (Z4f (fVar 3) (fI0 (fun i j=>.int (Builtin.bitXor i j)) (fI0 (fun i j=>.int (Builtin.bitXor i j)) (fIx (fVar 1) (fC (.int 0))) (fIx (fVar 1) (fC (.int 1)))) (fVar 2))) fNil)))) Z11)
    (rRet (fB1 Z55 (Z02 (fCat (fLst (Z02 (Z0n (fVar 0)) fNil)) (Z1E [3] (fSeq (fVar 1)) fTT (Z4f (fVar 1) (fVar 0)))) fNil))))
noncomputable def Z1I (C:Addr):List D -> Option D:=runF 4 (Z2O C)
noncomputable def Z3L (C:Addr):En -> Res :=
    (rSeq (rSet 2 (Z0f (Z2F C) [] (Z02 (fVar 0) (Z02 (fVar 1) fNil))))
    (rSeq (rSet 3 (Z0f (Z0T C) [] (Z02 (fFld C "ins" (fVar 0)) fNil)))
    (rSeq (rSet 4 (fLst (Z02 (fTup (Z02 (fC (.str "fix")) (Z02 (fC (.int 0)) fNil))) (Z02 (fTup (Z02 (fC (.str "fix")) (Z02 (fC (.int 1)) fNil))) fNil))))
    (rSeq (rSet 5 (Zbn (Z6X (fC (.int 0)) (fFld C "ins" (fVar 0)) (Z6X (fVar 3) (fI0 (fun i j=>.int (i + j)) (fFld C "ins" (fVar 0)) (fC (.int 1))) Z7P))))
    (rSeq (rFor [] (sB1 Z4i (Z02 (Z0f (Z0W C) [] (Z02 (fFld C "ins" (fVar 0)) fNil)) fNil)) (gtT [6,7]) (Z49 5 (fVar 7) (fVar 6)))
    (rSeq (rFor [] (fSeq (Z0f (Z2p C) [] (Z02 (fVar 0) fNil))) (gtN 6) (rIf (fNot (fInK (fIx (fVar 2) (fVar 6)) (fVar 5))) (rSeq (rSet 8 (Z0n (fIx (fFld C "rows" (fVar 0)) (fI0 (fun i j=>.int (i - j)) (fVar 6) (fFld C "ins" (fVar 0))))))
    (rSeq (rSet 9 (Z0f (Z0E C) [] (Z02 (fVar 8) (Z02 (fVar 6) (Z02 (fVar 2) (Z02 (fVar 3) (Z02 (fVar 1) fNil)))))))
    (rSeq (Z49 5 (fIx (fVar 2) (fVar 6)) (fI0 (fun i j=>.int (i + j)) (fFld C "ins" (fVar 0)) (fB1 FLen (Z02 (fVar 4) fNil))))
    (rApp 4 (Z0f (Z1I C) [] (Z02 (fIx (fVar 8) (fC (.int 0))) (Z02 (fVar 9) (Z02 (fVar 3) (Z02 (fVar 5) fNil))))))))) Z11))
    (rRet (Z0f (Z1z C) [] (Z02 (fB1 (Z1d C) (Z02 (fFld C "ins" (fVar 0)) (Z02 (fVar 4) (Z02 (Z1E [5,2] (fSeq (fFld C "outs" (fVar 0))) fTT (Z4f (fVar 1) (fIx (fVar 2) (fVar 0)))) fNil)))) fNil)))))))))
noncomputable def Z13 (C:Addr):List D -> Option D:=runF 10 (Z3L C)
noncomputable def Zd4 (C:Addr):En -> Res :=
    (rSeq (rSet 1 (Z0f (Z13 C) [] (Z02 (fVar 0) (Z02 (fC .non) fNil))))
    (rSeq (rSet 2 (Z0f (Z1J C) [] (Z02 (fVar 1) fNil)))
    (rSeq (rWh (fIsN true (fVar 2)) (rSeq (rSet 1 (Z0f (Z13 C) [] (Z02 (fVar 1) (Z02 (fVar 2) fNil))))
    (rSet 2 (Z0f (Z1J C) [] (Z02 (fVar 1) fNil)))))
    (Z4I 1))))
noncomputable def Z50 (C:Addr):List D -> Option D:=runF 3 (Zd4 C)
noncomputable def Z5M (C:Addr):En -> Res :=
    (rSeq (rIf (fBI (fun i j=>decide (j <= i)) (fVar 0) (fI2 CPow (fun i j=>.int (i ^ j.toNat)) (fC (.int 10)) (fC (.int 40)))) (rRet (fI2 (fun _ j=>0 < j) (fun i j=>.int (i % j)) (fI2 Z2h (fun i j=>.int (i / j)) (fI0 (fun i j=>.int (i - j)) (fVar 0) (fI2 CPow (fun i j=>.int (i ^ j.toNat)) (fC (.int 10)) (fC (.int 40)))) (fI2 CShl (fun i j=>.int (i * 2 ^ j.toNat)) (fC (.int 1)) (fI2 IntMulOk (fun i j=>.int (i * j)) (fC (.int 31)) (fI2 (fun _ j=>0 < j) (fun i j=>.int (i % j)) (fVar 1) (fC (.int 60)))))) (fI2 CShl (fun i j=>.int (i * 2 ^ j.toNat)) (fC (.int 1)) (fC (.int 31))))) Z11)
    (rSeq (rSet 2 (fI2 (fun _ j=>0 < j) (fun i j=>.int (i % j)) (fI2 IntMulOk (fun i j=>.int (i * j)) (fI0 (fun i j=>.int (i + j)) (fI0 (fun i j=>.int (i + j)) (fI0 (fun i j=>.int (i + j)) (fI2 IntMulOk (fun i j=>.int (i * j)) (fVar 0) (fVar 0)) (fI2 IntMulOk (fun i j=>.int (i * j)) (fC (.int 3)) (fVar 0))) (fI2 IntMulOk (fun i j=>.int (i * j)) (fC (.int 7919)) (fVar 1))) (fC (.int 1))) (fC (.int 48271))) (fC (.int 2147483629))))
    (rRet (fI2 (fun _ j=>0 < j) (fun i j=>.int (i % j)) (fI0 (fun i j=>.int (i + j)) (fI2 IntMulOk (fun i j=>.int (i * j)) (fVar 2) (fVar 2)) (fC (.int 7))) (fC (.int 2147483587))))))
noncomputable def Z1c (C:Addr):List D -> Option D:=runF 3 (Z5M C)
noncomputable def Zba (C:Addr):En -> Res :=
    (rSeq (rSet 3 (fI2 (fun _ j=>0 < j) (fun i j=>.int (i % j)) (fI2 Z2h (fun i j=>.int (i / j)) (fVar 0) (fC (.int 11))) (fVar 1)))
    (rSeq (rSet 4 (fI2 (fun _ j=>0 < j) (fun i j=>.int (i % j)) (fI2 Z2h (fun i j=>.int (i / j)) (fVar 0) (fC (.int 1009))) (fVar 1)))
    (rSeq (rIf (fAnd (fB (fVar 2)) (fEq (fI2 (fun _ j=>0 < j) (fun i j=>.int (i % j)) (fI2 Z2h (fun i j=>.int (i / j)) (fVar 0) (fC (.int 7))) (fC (.int 2))) (fC (.int 1)))) (rSet 3 (fI0 (fun i j=>.int (i - j)) (fI0 (fun i j=>.int (i - j)) (fVar 1) (fC (.int 1))) (fI2 (fun _ j=>0 < j) (fun i j=>.int (i % j)) (fI2 Z2h (fun i j=>.int (i / j)) (fVar 0) (fC (.int 13))) (fB1 FMin (Z02 (fVar 1) (Z02 (fC (.int 3)) fNil)))))) Z11)
    (rSeq (rSet 5 (fI2 (fun _ j=>0 < j) (fun i j=>.int (i % j)) (fVar 0) (fC (.int 11))))
    (rSeq (rIf (fEq (fVar 5) (fC (.int 0))) (rRet (fTup (Z02 (fC (.str "fix")) (Z02 (fI2 (fun _ j=>0 < j) (fun i j=>.int (i % j)) (fI2 Z2h (fun i j=>.int (i / j)) (fVar 0) (fC (.int 5))) (fC (.int 2))) fNil)))) Z11)
    (rSeq (rIf (fBI (fun i j=>decide (i < j)) (fVar 5) (fC (.int 3))) (rRet (fTup (Z02 (fC (.str "not")) (Z02 (Z0n (fVar 3)) fNil)))) Z11)
    (rRet (fTup (Z02 (Z0n (fIx (fLst (Z02 (fC (.str "and")) (Z02 (fC (.str "or")) (Z02 (fC (.str "xor")) (Z02 (fC (.str "and")) (Z02 (fC (.str "or")) fNil)))))) (fI2 (fun _ j=>0 < j) (fun i j=>.int (i % j)) (fVar 5) (fC (.int 5))))) (Z02 (Z0n (fVar 3)) (Z02 (Z0n (fVar 4)) fNil)))))))))))
noncomputable def Z3I (C:Addr):List D -> Option D:=runF 6 (Zba C)
noncomputable def Z5N (C:Addr):En -> Res :=
    (rSeq (rSet 4 (fLst fNil))
    (rSeq (rFor [] (sB1 Z4i (Z02 (fSl (fVar 0) fNoP (fP (fVar 2))) fNil)) (gtT [5,6]) (rSeq (rSet 7 (Z0f (Z1c C) [] (Z02 (fVar 6) (Z02 (fVar 5) fNil))))
    (rIf (fEq (fI0 (fun i j=>.int (i + j)) (fVar 1) (fB1 FLen (Z02 (fVar 4) fNil))) (fC (.int 0))) (rApp 4 (fTup (Z02 (fC (.str "fix")) (Z02 (fI2 (fun _ j=>0 < j) (fun i j=>.int (i % j)) (fVar 7) (fC (.int 2))) fNil)))) (rApp 4 (Z0f (Z3I C) [] (Z02 (fVar 7) (Z02 (fI0 (fun i j=>.int (i + j)) (fVar 1) (fB1 FLen (Z02 (fVar 4) fNil))) (Z02 (fOfB (fEq (fI2 (fun _ j=>0 < j) (fun i j=>.int (i % j)) (fVar 6) (fC (.int 2))) (fC (.int 0)))) fNil))))))))
    (rSeq (rIf (fEq (fI0 (fun i j=>.int (i + j)) (fVar 1) (fB1 FLen (Z02 (fVar 4) fNil))) (fC (.int 0))) (rApp 4 (fTup (Z02 (fC (.str "fix")) (Z02 (fC (.int 1)) fNil)))) Z11)
    (rSeq (rSet 8 (fI0 (fun i j=>.int (i - j)) (fI0 (fun i j=>.int (i + j)) (fVar 1) (fB1 FLen (Z02 (fVar 4) fNil))) (fC (.int 1))))
    (rSeq (rSet 9 (fLst fNil))
    (rSeq (rFor [] (sB1 Z4h (Z02 (fI0 (fun i j=>.int (i + j)) (fVar 3) (fC (.int 1))) fNil)) (gtN 5) (rSeq (rSet 7 (Z0f (Z1c C) [] (Z02 (fI0 (fun i j=>.int (i + j)) (fB1 FSum (Z02 (fSl (fVar 0) fNoP (fP (fC (.int 9)))) fNil)) (fC (.int 5))) (Z02 (fVar 5) fNil))))
    (rApp 9 (Z0n (fIx (fLst (Z02 (Z0n (fVar 8)) (Z02 (fI2 (fun _ j=>0 < j) (fun i j=>.int (i % j)) (fI2 Z2h (fun i j=>.int (i / j)) (fVar 7) (fC (.int 3))) (fI0 (fun i j=>.int (i + j)) (fVar 8) (fC (.int 1)))) fNil))) (fB1 FInt (Z02 (fOfB (fOr (fB (fI0 (fun i j=>.bl (decide (j < i))) (fI2 (fun _ j=>0 < j) (fun i j=>.int (i % j)) (fVar 7) (fC (.int 3))) (fC (.int 0)))) (fB (fI0 (fun i j=>.bl (decide (j < i))) (fVar 5) (fC (.int 0)))))) fNil)))))))
    (Zah 4 9)))))))
noncomputable def Z22 (C:Addr):List D -> Option D:=runF 10 (Z5N C)
noncomputable def Z91 (C:Addr):En -> Res :=
    (rSeq (rIf (fAnd (fIsN true (fVar 4)) (fEq (fVar 4) (fTup (Z02 (fC (.str "leg")) (Z02 (fVar 2) (Z02 (fVar 3) (Z02 (fIx (fVar 4) (fC (.int (-1)))) fNil))))))) (rRet (fI2 IntMulOk (fun i j=>.int (i * j)) (fIx (fVar 4) (fC (.int (-1)))) (fVar 5))) Z11)
    (rRet (Z0n (fIx (fVar 0) (fIx (fVar 1) (fI0 (fun i j=>.int (i + j)) (fC (.int 1)) (fVar 3)))))))
noncomputable def Z3h (C:Addr):List D -> Option D:=runF 6 (Z91 C)
noncomputable def Z3Y (C:Addr):En -> Res :=
    (rSeq (rIf (fEq (fIx (fVar 1) (fC (.int 0))) (fC (.str "fix"))) (rRet (fI2 IntMulOk (fun i j=>.int (i * j)) (fIx (fVar 1) (fC (.int 1))) (fVar 4))) Z11)
    (rSeq (rSet 5 (Z0f (Z3h C) [] (Z02 (fVar 0) (Z02 (fVar 1) (Z02 (fVar 2) (Z02 (fC (.int 0)) (Z02 (fVar 3) (Z02 (fVar 4) fNil))))))))
    (rSeq (rIf (fEq (fIx (fVar 1) (fC (.int 0))) (fC (.str "not"))) (rRet (fI0 (fun i j=>.int (i - j)) (fVar 4) (fVar 5))) Z11)
    (rSeq (rSet 6 (Z0f (Z3h C) [] (Z02 (fVar 0) (Z02 (fVar 1) (Z02 (fVar 2) (Z02 (fC (.int 1)) (Z02 (fVar 3) (Z02 (fVar 4) fNil))))))))
    (rSeq (rIf (fEq (fIx (fVar 1) (fC (.int 0))) (fC (.str "and"))) (rRet (fI0 (fun i j=>.int (Builtin.bitAnd i j)) (fVar 5) (fVar 6))) Z11)
    (rSeq (rIf (fEq (fIx (fVar 1) (fC (.int 0))) (fC (.str "or"))) (rRet (fI0 (fun i j=>.int (Builtin.bitOr i j)) (fVar 5) (fVar 6))) Z11)
    (rRet (fI0 (fun i j=>.int (Builtin.bitXor i j)) (fVar 5) (fVar 6)))))))))
noncomputable def Z1R (C:Addr):List D -> Option D:=runF 7 (Z3Y C)
noncomputable def Z6n (C:Addr):En -> Res :=
    (rSeq (rSet 3 (fI0 (fun i j=>.int (i - j)) (fI2 CShl (fun i j=>.int (i * 2 ^ j.toNat)) (fC (.int 1)) (fI2 CShl (fun i j=>.int (i * 2 ^ j.toNat)) (fC (.int 1)) (fVar 0))) (fC (.int 1))))
    (rSeq (rSet 4 (fLst fNil))
    (rSeq (rFor [] (sB1 Z4h (Z02 (fI0 (fun i j=>.int (i + j)) (fVar 0) (fB1 FLen (Z02 (fVar 1) fNil))) fNil)) (gtN 5) (rSeq (rIf (fBI (fun i j=>decide (i < j)) (fVar 5) (fVar 0)) (rApp 4 (fB1 FSum (Z02 (Z1E [5] (sB1 Z4h (Z02 (fI2 CShl (fun i j=>.int (i * 2 ^ j.toNat)) (fC (.int 1)) (fVar 0)) fNil)) (fEq (fI2 (fun _ j=>0 < j) (fun i j=>.int (i % j)) (fI2 Z2h (fun i j=>.int (i / j)) (fVar 0) (fI2 CShl (fun i j=>.int (i * 2 ^ j.toNat)) (fC (.int 1)) (fVar 1))) (fC (.int 2))) (fC (.int 1))) (fI2 CShl (fun i j=>.int (i * 2 ^ j.toNat)) (fC (.int 1)) (fVar 0))) fNil))) (rApp 4 (Z0f (Z1R C) [] (Z02 (fVar 4) (Z02 (fIx (fVar 1) (fI0 (fun i j=>.int (i - j)) (fVar 5) (fVar 0))) (Z02 (fVar 5) (Z02 (fVar 2) (Z02 (fVar 3) fNil))))))))
    (rIf (fAnd (fIsN true (fVar 2)) (fAnd (fEq (fIx (fVar 2) (fC (.int 0))) (fC (.str "wire"))) (fEq (fIx (fVar 2) (fC (.int 1))) (fVar 5)))) (rPut 4 (fVar 5) (fI2 IntMulOk (fun i j=>.int (i * j)) (fIx (fVar 2) (fC (.int 2))) (fVar 3))) Z11)))
    (Z4I 4))))
noncomputable def Z0U (C:Addr):List D -> Option D:=runF 6 (Z6n C)
noncomputable def Z5L (C:Addr):En -> Res :=
    (rSeq (rSet 4 (Z0f (Z0U C) [] (Z02 (fVar 0) (Z02 (fVar 1) (Z02 (fC .non) fNil)))))
    (rSeq (rSet 5 (Z0f (Z0U C) [] (Z02 (fVar 0) (Z02 (fVar 1) (Z02 (fVar 3) fNil)))))
    (rSeq (rSet 6 (fC (.int 0)))
    (rSeq (rFor [2] (fSeq (fVar 2)) (gtN 7) (rSet 6 (fI0 (fun i j=>.int (Builtin.bitOr i j)) (fVar 6) (fI0 (fun i j=>.int (Builtin.bitXor i j)) (fIx (fVar 4) (fVar 7)) (fIx (fVar 5) (fVar 7))))))
    (rRet (Z0n (fVar 6)))))))
noncomputable def Z1v (C:Addr):List D -> Option D:=runF 8 (Z5L C)
noncomputable def Z6V (C:Addr):En -> Res :=
    (rSeq (rIf (fOr (fBI (fun i j=>decide (i < j)) (fVar 2) (fVar 0)) (fEq (fIx (fIx (fVar 1) (fI0 (fun i j=>.int (i - j)) (fVar 2) (fVar 0))) (fC (.int 0))) (fC (.str "fix")))) (rRet (fLst fNil)) Z11)
    (rRet (fB1 Z4F (Z02 (fSl (fIx (fVar 1) (fI0 (fun i j=>.int (i - j)) (fVar 2) (fVar 0))) (fP (fC (.int 1))) fNoP) fNil))))
noncomputable def Z2G (C:Addr):List D -> Option D:=runF 3 (Z6V C)
noncomputable def Z6o (C:Addr):En -> Res :=
    (rSeq (rSet 3 (fLst fNil))
    (rSeq (rFor [2] (fSeq (fVar 2)) (gtN 4) (rIf (fNot (fIn (fVar 4) (fVar 3))) (rApp 3 (Z0n (fVar 4))) Z11))
    (rSeq (rSet 5 (fC (.int 0)))
    (rSeq (rWh (fBI (fun i j=>decide (i < j)) (fVar 5) (fB1 FLen (Z02 (fVar 3) fNil))) (rSeq (rFor [] (fSeq (Z0f (Z2G C) [] (Z02 (fVar 0) (Z02 (fVar 1) (Z02 (fIx (fVar 3) (fVar 5)) fNil))))) (gtN 6) (rIf (fNot (fIn (fVar 6) (fVar 3))) (rApp 3 (Z0n (fVar 6))) Z11))
    (rSet 5 (fI0 (fun i j=>.int (i + j)) (fVar 5) (fC (.int 1))))))
    (rRet (fB1 Z75 (Z02 (fVar 3) fNil)))))))
noncomputable def Z2l (C:Addr):List D -> Option D:=runF 7 (Z6o C)
noncomputable def Z4e (C:Addr):En -> Res :=
    (rSeq (rIf (fAnd (fBI (fun i j=>decide (j <= i)) (fVar 2) (fVar 0)) (fEq (fIx (fIx (fVar 1) (fI0 (fun i j=>.int (i - j)) (fVar 2) (fVar 0))) (fC (.int 0))) (fC (.str "fix")))) (rRet (fLst (Z02 (fI0 (fun i j=>.int (i - j)) (fC (.int 1)) (fIx (fIx (fVar 1) (fI0 (fun i j=>.int (i - j)) (fVar 2) (fVar 0))) (fC (.int 1)))) fNil))) Z11)
    (rRet (fLst (Z02 (fC (.int 0)) (Z02 (fC (.int 1)) fNil)))))
noncomputable def Z1g (C:Addr):List D -> Option D:=runF 3 (Z4e C)
noncomputable def Z6p (C:Addr):En -> Res :=
    (rSeq (rSet 3 (fLst fNil))
    (rSeq (rFor [] (fSeq (Z0f (Z2l C) [] (Z02 (fVar 0) (Z02 (fVar 1) (Z02 (fVar 2) fNil))))) (gtN 4) (rSeq (Z48 3 3 (Z1E [4] (fSeq (Z0f (Z1g C) [] (Z02 (fVar 0) (Z02 (fVar 1) (Z02 (fVar 4) fNil))))) fTT (fTup (Z02 (fC (.str "wire")) (Z02 (Z0n (fVar 1)) (Z02 (Z0n (fVar 0)) fNil))))))
    (rFor [] (sB1 Z4i (Z02 (Z0f (Z2G C) [] (Z02 (fVar 0) (Z02 (fVar 1) (Z02 (fVar 4) fNil)))) fNil)) (gtT [5,6]) (Z48 3 3 (Z1E [4,5] (fSeq (Z0f (Z1g C) [] (Z02 (fVar 0) (Z02 (fVar 1) (Z02 (fVar 6) fNil))))) fTT (fTup (Z02 (fC (.str "leg")) (Z02 (Z0n (fVar 1)) (Z02 (Z0n (fVar 2)) (Z02 (Z0n (fVar 0)) fNil))))))))))
    (Z4I 3)))
noncomputable def Z2m (C:Addr):List D -> Option D:=runF 7 (Z6p C)
noncomputable def Z6q (C:Addr):En -> Res :=
    (rSeq (rSet 4 (fI2 (fun _ j=>0 < j) (fun i j=>.int (i % j)) (fI2 Z2h (fun i j=>.int (i / j)) (fVar 3) (fC (.int 5))) (fI0 (fun i j=>.int (i + j)) (fVar 1) (fB1 FLen (Z02 (fVar 0) fNil)))))
    (rSeq (rSet 5 (fI0 (fun i j=>.int (i + j)) (fVar 1) (fB1 FLen (Z02 (fVar 0) fNil))))
    (rSeq (rSet 6 (fI2 (fun _ j=>0 < j) (fun i j=>.int (i % j)) (fVar 3) (fC (.int 5))))
    (rSeq (rIf (fEq (fVar 6) (fC (.int 0))) (rRet (fLst (Z02 (fTup (Z02 (Z0n (fIx (fLst (Z02 (fC (.str "and")) (Z02 (fC (.str "or")) fNil))) (fI2 (fun _ j=>0 < j) (fun i j=>.int (i % j)) (fI2 Z2h (fun i j=>.int (i / j)) (fVar 3) (fC (.int 7))) (fC (.int 2))))) (Z02 (Z0n (fVar 2)) (Z02 (Z0n (fVar 2)) fNil)))) fNil))) Z11)
    (rSeq (rIf (fEq (fVar 6) (fC (.int 1))) (rRet (fLst (Z02 (fTup (Z02 (fC (.str "and")) (Z02 (Z0n (fVar 2)) (Z02 (Z0n (fVar 4)) fNil)))) (Z02 (fTup (Z02 (fC (.str "or")) (Z02 (Z0n (fVar 2)) (Z02 (Z0n (fVar 5)) fNil)))) fNil)))) Z11)
    (rSeq (rIf (fEq (fVar 6) (fC (.int 2))) (rRet (fLst (Z02 (fTup (Z02 (fC (.str "or")) (Z02 (Z0n (fVar 2)) (Z02 (Z0n (fVar 4)) fNil)))) (Z02 (fTup (Z02 (fC (.str "and")) (Z02 (Z0n (fVar 5)) (Z02 (Z0n (fVar 2)) fNil)))) fNil)))) Z11)
    (rSeq (rIf (fEq (fVar 6) (fC (.int 3))) (rRet (fLst (Z02 (fTup (Z02 (fC (.str "fix")) (Z02 (fC (.int 0)) fNil))) (Z02 (fTup (Z02 (fC (.str "xor")) (Z02 (Z0n (fVar 5)) (Z02 (Z0n (fVar 2)) fNil)))) fNil)))) Z11)
    (rRet (fLst (Z02 (fTup (Z02 (fC (.str "fix")) (Z02 (fC (.int 1)) fNil))) (Z02 (fTup (Z02 (fC (.str "xor")) (Z02 (Z0n (fVar 2)) (Z02 (Z0n (fVar 5)) fNil)))) (Z02 (fTup (Z02 (fC (.str "xor")) (Z02 (fI0 (fun i j=>.int (i + j)) (fVar 5) (fC (.int 1))) (Z02 (Z0n (fVar 5)) fNil)))) fNil))))))))))))
noncomputable def Z26 (C:Addr):List D -> Option D:=runF 7 (Z6q C)
noncomputable def Z93 (C:Addr):En -> Res :=
    (rSeq (rFor [] (fSeq (Z0f (Z2m C) [] (Z02 (fFld C "ins" (fVar 0)) (Z02 (fFld C "rows" (fVar 0)) (Z02 (fFld C "outs" (fVar 0)) fNil))))) (gtN 1) (rIf (fEq (Z0f (Z1v C) [] (Z02 (fFld C "ins" (fVar 0)) (Z02 (fFld C "rows" (fVar 0)) (Z02 (fFld C "outs" (fVar 0)) (Z02 (fVar 1) fNil))))) (fC (.int 0))) (rRet (fC (.bl true))) Z11))
    (rRet (fC (.bl false))))
noncomputable def Z3X (C:Addr):List D -> Option D:=runF 2 (Z93 C)
noncomputable def Z92 (C:Addr):En -> Res :=
    (rSeq (rSet 2 (Z0f (Z0U C) [] (Z02 (fFld C "ins" (fVar 0)) (Z02 (fFld C "rows" (fVar 0)) (Z02 (fC .non) fNil)))))
    (rRet (fOfB (fEq (Z1E [2] (fSeq (fFld C "outs" (fVar 0))) fTT (Z0n (fIx (fVar 1) (fVar 0)))) (fVar 1)))))
noncomputable def Z3W (C:Addr):List D -> Option D:=runF 3 (Z92 C)
noncomputable def Zfj (C:Addr):En -> Res :=
    (rSeq (rSet 1 (fSl (fVar 0) fNoP (fP (fC (.int 8)))))
    (rSeq (rSet 2 (fC (.int 3)))
    (rSeq (rIf (fBI (fun i j=>decide (j < i)) (fB1 FLen (Z02 (fVar 1) fNil)) (fC (.int 0))) (rSet 2 (fB1 FSum (Z02 (fSl (fVar 0) fNoP (fP (fC (.int 63)))) fNil))) Z11)
    (rSeq (rSet 3 (fI2 (fun _ j=>0 < j) (fun i j=>.int (i % j)) (fVar 2) (fC (.int 5))))
    (rSeq (rUnp [] (gtT [4,5]) (Z0f (Z22 C) [] (Z02 (fVar 1) (Z02 (fVar 3) (Z02 (fC (.int 8)) (Z02 (fI2 (fun _ j=>0 < j) (fun i j=>.int (i % j)) (fI2 Z2h (fun i j=>.int (i / j)) (fVar 2) (fC (.int 5))) (fC (.int 3))) fNil))))))
    (rSeq (rSet 6 (fB1 Z4F (Z02 (fVar 4) fNil)))
    (rSeq (rSet 7 (fLst fNil))
    (rSeq (rFor [5] (sB1 Z4i (Z02 (fVar 5) fNil)) (gtT [8,9]) (rSeq (rSet 6 (Zbo (fVar 6) (Z0f (Z26 C) [] (Z02 (fVar 6) (Z02 (fVar 3) (Z02 (fVar 9) (Z02 (Z0f (Z1c C) [] (Z02 (fVar 2) (Z02 (fVar 8) fNil))) fNil)))))))
    (rApp 7 (fI0 (fun i j=>.int (i - j)) (fI0 (fun i j=>.int (i + j)) (fVar 3) (fB1 FLen (Z02 (fVar 6) fNil))) (fC (.int 1))))))
    (rSeq (rSet 10 (Z0f (Z0U C) [] (Z02 (fVar 3) (Z02 (fVar 4) (Z02 (fC .non) fNil)))))
    (rSeq (rSet 11 (Z1E [10] (fSeq (fVar 5)) fTT (Z0n (fIx (fVar 1) (fVar 0)))))
    (rSeq (rSet 12 (Z0f (Z50 C) [] (Z02 (fB1 (Z1d C) (Z02 (fVar 3) (Z02 (fVar 4) (Z02 (fVar 5) fNil)))) fNil)))
    (rSeq (rSet 13 (Z0f (Z50 C) [] (Z02 (fB1 (Z1d C) (Z02 (fVar 3) (Z02 (fVar 6) (Z02 (fVar 7) fNil)))) fNil)))
    (rSeq (rSet 14 (Z0f (Z50 C) [] (Z02 (fVar 13) fNil)))
    (rSeq (rIf (fOr (fBI (fun i j=>decide (j < i)) (fB1 FLen (Z02 (fFld C "rows" (fVar 12)) fNil)) (fB1 FLen (Z02 (fVar 4) fNil))) (fOr (fBI (fun i j=>decide (j < i)) (fB1 FLen (Z02 (fFld C "rows" (fVar 13)) fNil)) (fB1 FLen (Z02 (fVar 6) fNil))) (fBI (fun i j=>decide (j < i)) (fB1 FLen (Z02 (fFld C "rows" (fVar 14)) fNil)) (fB1 FLen (Z02 (fFld C "rows" (fVar 13)) fNil))))) (rRet (fC (.bl false))) Z11)
    (rSeq (rFor [12,13,14] (fSeq (fLst (Z02 (fVar 12) (Z02 (fVar 13) (Z02 (fVar 14) fNil))))) (gtN 15) (rIf (fOr (fNot (fB (fIsC C (fVar 15)))) (fOr (fNot (fB (Z0f (Z3W C) [] (Z02 (fVar 15) (Z02 (fVar 11) fNil))))) (fB (Z0f (Z3X C) [] (Z02 (fVar 15) fNil))))) (rRet (fC (.bl false))) Z11))
    (rRet (fC (.bl true))))))))))))))))))
noncomputable def Ze6 (C:Addr):List D -> Option D:=runF 16 (Zfj C)
section
variable {P:Program} {w:World} {K:Frag} {mg:Str -> Option Value} {base:Heap} {C fA:Addr} {fd:FuncData}
theorem sc_init_Circuit:Z0p ["self","ins","rows","outs"] ["self","ins","rows","outs"] (Z04 Z0R):=⟨rfl,rfl,rfl,by decide +kernel,rfl,by decide +kernel,by decide +kernel⟩
theorem Z5y  (F:FunD K "__init__" "Circuit.__init__" Z0R fA fd) (z_list:mg "list" = none) (z_tuple:mg "tuple" = none) (hC:Cls K C) (hA_ins:NoAttr K C "ins") (hA_rows:NoAttr K C "rows") (hA_outs:NoAttr K C "outs") :
    FnOk P w K mg base CX0 1 fA fd ["self","ins","rows","outs"] (spI K C 3 (Z1d C)):=by
  have nd:=sc_init_Circuit.nd
  refine F.raw sc_init_Circuit (fun vs H Q E h=>Zdm h) fun cdv A outer s H vs Q E hr hsp=>?_
  obtain ⟨x,dx,H0,us,ds,d,fp,rfl,hx,hdx,hne,rfl,h1,h2,h3,q⟩:=hsp
  obtain ⟨F,hF⟩:=Z87 h2
  have hl:=h2.length
  match ds,us,h1,hl,hF,h3 with
  | [i,r,o],[u1,u2,u3],_,_,hF,h3 =>
    unfold Z1d at h3
    simp only at h3
    split at h3
    . rename_i a b c e1 e2 e3
      cases h3
      refine ⟨_,Z6F (ZaA (pv 0) (show QE _ true [] _ _ from (QE.flat (Z00 1))) rfl) (Z6F (ZaA (pv 0) (show QE _ true [] _ _ from (Z2Z (fr:=[]) rfl (by rfl) (Z1i (Z00 2)) (show List.Nodup (["row"]:List Str) from by decide +kernel) (by rfl) (fun _ _ _ _ _ _=>Z2u) (fun _ _ _ _ _ _=>(qp (Z6C (by rfl) z_tuple (Z00 0)))))) rfl) (Zay (ZaA (pv 0) (show QE _ true [] _ _ from (qp (Z6D (by rfl) z_list (Z00 3)))) rfl))),?_⟩
      refine Zg1 (F:=fun i=>F (i - 1)) (us:=[u1,u2,u3]) (ds:=[i,r,o]) (fp:=fp) hx hdx hne (fun j ow d' e=>?_) rfl e1 e2 e3 hC hA_ins hA_rows hA_outs (by decide +kernel) (by decide +kernel) (by decide +kernel) q
      match j,e with
      | 1,e=>cases e; exact (let ⟨v,a1,a2⟩:=hF 0 i rfl; ⟨v,by cases a1; rfl,a2⟩)
      | 2,e=>cases e; exact (let ⟨v,a1,a2⟩:=hF 1 r rfl; ⟨v,by cases a1; rfl,a2⟩)
      | 3,e=>cases e; exact (let ⟨v,a1,a2⟩:=hF 2 o rfl; ⟨v,by cases a1; rfl,a2⟩)
      | 0,e=>cases e
      | j + 4,e=>cases e
    . cases h3
theorem sc_gate_value:Z0p ["row","legs","ones","kind"] ["row","legs","ones"] (Z04 Z17):=⟨rfl,rfl,rfl,by decide +kernel,rfl,by decide +kernel,by decide +kernel⟩
theorem Z6M   (F:FunD K "gate_value" "gate_value" Z17 fA fd)  :
    FnOk P w K mg base CX0 1 fA fd ["row","legs","ones"] (spD K 3 (Z0X C)):=by
  have nd:=sc_gate_value.nd
  refine F.ok sc_gate_value rfl rfl fun cdv A outer s H E hr=>?_
  exact (Z05 (Z0h (i:=3) nd rfl (Or.inl rfl) (QE.flat (Z0D (Z00 0) (qp Z08))))
      (Z05 (Z1o (Z1V (Z1Q hr) (Z00 3) (qp Z0w)) (Z06 (Z0q (qp (Z0l Z2w (Z00 2) (Z0D (Z00 0) (qp Z08)))))) Z0r)
      (Z05 (Z1o (Z1V (Z1Q hr) (Z00 3) (qp Z0w)) (Z06 (Z0q (qp (Z0m Z5v (Z00 2) (Z0D (Z00 1) (qp Z08)))))) Z0r)
      (Z05 (Z1o (Z1V (Z1Q hr) (Z00 3) (qp Z0w)) (Z06 (Z0q (qp (Z0m Zd0 (Z0D (Z00 1) (qp Z08)) (Z0D (Z00 1) (qp Z08)))))) Z0r)
      (Z05 (Z1o (Z1V (Z1Q hr) (Z00 3) (qp Z0w)) (Z06 (Z0q (qp (Z0m ZaG (Z0D (Z00 1) (qp Z08)) (Z0D (Z00 1) (qp Z08)))))) Z0r)
      (Z06 (Z0q (qp (Z0m Z5v (Z0D (Z00 1) (qp Z08)) (Z0D (Z00 1) (qp Z08)))))))))))
theorem sc_leg_wires:Z0p ["row"] ["row"] (Z04 Z1q):=⟨rfl,rfl,rfl,by decide +kernel,rfl,by decide +kernel,by decide +kernel⟩
theorem Z7v   (F:FunD K "leg_wires" "leg_wires" Z1q fA fd) (z_list:mg "list" = none) :
    FnOk P w K mg base CX0 1 fA fd ["row"] (spD K 1 (Z0C C)):=by
  have nd:=sc_leg_wires.nd
  refine F.ok sc_leg_wires rfl rfl fun cdv A outer s H E hr=>?_
  exact (Z05 (Z1o (Z1V (Z1Q hr) (Z0D (Z00 0) (qp Z08)) (qp Z0w)) (Z06 (Z0q (Z1b Z07))) Z0r)
      (Z06 (Z0q (qp (Z6D (by rfl) z_list (qp (Z3T (Z00 0) (Z4L (qp Z08)) Z4M)))))))
theorem sc_leg_values:Z0p ["row","wire","values","ones","fault","legs"] ["row","wire","values","ones","fault"] (Z04 Z16):=⟨rfl,rfl,rfl,by decide +kernel,rfl,by decide +kernel,by decide +kernel⟩
theorem Z6L   (F:FunD K "leg_values" "leg_values" Z16 fA fd) (c_leg_wires:Z0c P w K mg base "leg_wires" [] 1 1 (Z0C C)) :
    FnOk P w K mg base CX0 2 fA fd ["row","wire","values","ones","fault"] (spD K 5 (Z0E C)):=by
  have nd:=sc_leg_values.nd
  refine F.ok sc_leg_values rfl rfl fun cdv A outer s H E hr=>?_
  exact (Z05 (Z4J (i:=5) (fr:=[2]) rfl nd rfl (Or.inl rfl) (by rfl) (Z1i (m1:=true) (rs:=[]) (Z0i c_leg_wires (hr.mono (by decide)) (.cons NArgs.nil) rfl (Z01 (QE.more (Z00 0) (by simp)) (Z07 (m:=false) (rs:=[0]))))) (show List.Nodup (["source","values"]:List Str) from by decide +kernel) (by rfl) (fun _ _ _ _ _ _=>Z2u) (fun _ _ _ _ _ _=>(QE.flat (Z0D (Z00 1) (Z00 0)))))
      (Z05 (Z1o (QW.qt (Z3F (Z5q (Z00 4)) (Z3F (Z1V (Z1Q hr) (Z0D (Z00 4) (qp Z08)) (qp Z0w)) (Z3E (Z1V (Z1Q hr) (Z0D (Z00 4) (qp Z08)) (Z00 1)))))) (Z06 (Zap 5 (Z0D (Z00 4) (qp Z08)) (qp (Z0l Z2w (Z00 3) (Z0D (Z00 4) (qp Z08)))))) Z0r)
      (Z06 (Z4a (i:=5)))))
theorem sc_on_wire:Z0p ["value","wire","ones","fault"] ["value","wire","ones","fault"] (Z04 Z28):=⟨rfl,rfl,rfl,by decide +kernel,rfl,by decide +kernel,by decide +kernel⟩
theorem Z9v   (F:FunD K "on_wire" "on_wire" Z28 fA fd)  :
    FnOk P w K mg base CX0 1 fA fd ["value","wire","ones","fault"] (spD K 4 (Z1x C)):=by
  have nd:=sc_on_wire.nd
  refine F.ok sc_on_wire rfl rfl fun cdv A outer s H E hr=>?_
  exact (Z05 (Z1o (QW.qt (Z3F (Z5q (Z00 3)) (Z3F (Z1V (Z1Q hr) (Z0D (Z00 3) (qp Z08)) (qp Z0w)) (Z3E (Z1V (Z1Q hr) (Z0D (Z00 3) (qp Z08)) (Z00 1)))))) (Z06 (Z0q (qp (Z0l Z2w (Z00 2) (Z0D (Z00 3) (qp Z08)))))) Z0r)
      (Z06 (Z0q (QE.flat (Z00 0)))))
theorem sc_borne:Z0p ["circuit","starts","ones","fault","values","start","row","wire","legs"] ["circuit","starts","ones","fault"] (Z04 Z3e):=⟨rfl,rfl,rfl,by decide +kernel,rfl,by decide +kernel,by decide +kernel⟩
theorem Zce   (F:FunD K "borne" "borne" Z3e fA fd) (c_gate_value:Z0c P w K mg base "gate_value" [] 1 3 (Z0X C)) (c_leg_values:Z0c P w K mg base "leg_values" [] 2 5 (Z0E C)) (c_on_wire:Z0c P w K mg base "on_wire" [] 1 4 (Z1x C)) (z_len:mg "len" = none) (hC:Cls K C) (hA_rows:NoAttr K C "rows") :
    FnOk P w K mg base CX0 3 fA fd ["circuit","starts","ones","fault"] (spD K 4 (Z4O C)):=by
  have nd:=sc_borne.nd
  refine F.ok sc_borne rfl rfl fun cdv A outer s H E hr=>?_
  exact (Z05 (Z0h (i:=4) nd rfl (Or.inl rfl) (Z1b Z07))
      (Z05 (Z1l rfl PassesOwn.never (Z1i (Z00 1)) (Z1f (i:=5) nd rfl (Or.inl rfl)) (Z06 (Z2y 4 (Z0i c_on_wire (hr.mono (by decide)) (.cons (.cons (.cons (.cons NArgs.nil)))) rfl (Z01 (QE.more (Z00 5) (by simp)) (Z01 (QE.weak (qp (Z1W (by rfl) z_len (Z00 4)))) (Z01 (QE.more (Z00 2) (by simp)) (Z01 (QE.more (Z00 3) (by simp)) (Z07 (m:=false) (rs:=[5,2,3]))))))))))
      (Z05 (Z1l rfl PassesOwn.never (Z1i (Z0x hC hA_rows (Z00 0))) (Z1f (i:=6) nd rfl (Or.inl rfl)) (Z05 (Z0h (i:=7) nd rfl (Or.inl rfl) (qp (Z1W (by rfl) z_len (Z00 4))))
      (Z05 (Z0h (i:=8) nd rfl (Or.inl rfl) (Z0i c_leg_values (hr.mono (by decide)) (.cons (.cons (.cons (.cons (.cons NArgs.nil))))) rfl (Z01 (QE.more (Z00 6) (by simp)) (Z01 (QE.more (Z00 7) (by simp)) (Z01 (QE.more (Z00 4) (by simp)) (Z01 (QE.more (Z00 2) (by simp)) (Z01 (QE.more (Z00 3) (by simp)) (Z07 (m:=false) (rs:=[6,7,4,2,3])))))))))
      (Z06 (Z2y 4 (Z0i c_on_wire (hr.mono (by decide)) (.cons (.cons (.cons (.cons NArgs.nil)))) rfl (Z01 (QE.weak (Z0i c_gate_value (hr.mono (by decide)) (.cons (.cons (.cons NArgs.nil))) rfl (Z01 (QE.more (Z00 6) (by simp)) (Z01 (QE.more (Z00 8) (by simp)) (Z01 (QE.more (Z00 2) (by simp)) (Z07 (m:=false) (rs:=[6,8,2]))))))) (Z01 (QE.more (Z00 7) (by simp)) (Z01 (QE.more (Z00 2) (by simp)) (Z01 (QE.more (Z00 3) (by simp)) (Z07 (m:=false) (rs:=[7,2,3]))))))))))))
      (Z06 (Z4a (i:=4))))))
theorem sc_full_table:Z0p ["ins"] ["ins"] (Z04 Z18):=⟨rfl,rfl,rfl,by decide +kernel,rfl,by decide +kernel,by decide +kernel⟩
theorem Z6N   (F:FunD K "full_table" "full_table" Z18 fA fd)  :
    FnOk P w K mg base CX0 1 fA fd ["ins"] (spD K 1 (Z0T C)):=by
  have nd:=sc_full_table.nd
  refine F.ok sc_full_table rfl rfl fun cdv A outer s H E hr=>?_
  exact (Z06 (Z0q (qp (Z0m Z1S (qp (Z0l Z2v (qp Z08) (qp (Z0l Z2v (qp Z08) (Z00 0))))) (qp Z08)))))
theorem sc_input_tables:Z0p ["ins","found","k","width"] ["ins"] (Z04 Z0Q):=⟨rfl,rfl,rfl,by decide +kernel,rfl,by decide +kernel,by decide +kernel⟩
theorem Z5x   (F:FunD K "input_tables" "input_tables" Z0Q fA fd) (c_full_table:Z0c P w K mg base "full_table" [] 1 1 (Z0T C)) (z_range:mg "range" = none) :
    FnOk P w K mg base CX0 2 fA fd ["ins"] (spD K 1 (Z0W C)):=by
  have nd:=sc_input_tables.nd
  refine F.ok sc_input_tables rfl rfl fun cdv A outer s H E hr=>?_
  exact (Z05 (Z0h (i:=1) nd rfl (Or.inl rfl) (Z1b Z07))
      (Z05 (Z1l rfl PassesOwn.never (Z3G (rs:=[]) (by rfl) z_range (Z01 (QE.more (Z00 0) (by simp)) (Z07 (m:=false) (rs:=[0])))) (Z1f (i:=2) nd rfl (Or.inl rfl)) (Z05 (Z0h (i:=3) nd rfl (Or.inr rfl) (qp (Z0l Z2v (qp Z08) (Z00 2))))
      (Z05 (Z4J (i:=1) (fr:=[3]) rfl nd rfl (Or.inl rfl) (by rfl) (Z1i (Z00 1)) (show List.Nodup (["table","width"]:List Str) from by decide +kernel) (by rfl) (fun _ _ _ _ _ _=>Z2u) (fun _ _ _ _ _ _=>(qp (Z0m ZaG (Z00 0) (qp (Z0l Z2v (Z00 0) (Z00 1)))))))
      (Z06 (Z2y 1 (qp (Z0l Z2v (Z0i c_full_table (hr.mono (by decide)) (.cons NArgs.nil) rfl (Z01 (QE.more (Z00 2) (by simp)) (Z07 (m:=false) (rs:=[2])))) (Z00 3))))))))
      (Z06 (Z4a (i:=1)))))
theorem sc_tables:Z0p ["circuit","fault"] ["circuit","fault"] (Z04 Z1Z):=⟨rfl,rfl,rfl,by decide +kernel,rfl,by decide +kernel,by decide +kernel⟩
theorem ZaJ   (F:FunD K "tables" "tables" Z1Z fA fd) (c_borne:Z0c P w K mg base "borne" [] 3 4 (Z4O C)) (c_full_table:Z0c P w K mg base "full_table" [] 1 1 (Z0T C)) (c_input_tables:Z0c P w K mg base "input_tables" [] 2 1 (Z0W C)) (hC:Cls K C) (hA_ins:NoAttr K C "ins") :
    FnOk P w K mg base CX0 4 fA fd ["circuit","fault"] (spD K 2 (Z2F C)):=by
  have nd:=sc_tables.nd
  refine F.ok sc_tables rfl rfl fun cdv A outer s H E hr=>?_
  exact (Z06 (Z0q (Z0i c_borne (hr.mono (by decide)) (.cons (.cons (.cons (.cons NArgs.nil)))) rfl (Z01 (QE.more (Z00 0) (by simp)) (Z01 (QE.weak (Z0i c_input_tables (hr.mono (by decide)) (.cons NArgs.nil) rfl (Z01 (QE.more (Z0x hC hA_ins (Z00 0)) (by simp)) (Z07 (m:=false) (rs:=[0]))))) (Z01 (QE.weak (Z0i c_full_table (hr.mono (by decide)) (.cons NArgs.nil) rfl (Z01 (QE.more (Z0x hC hA_ins (Z00 0)) (by simp)) (Z07 (m:=false) (rs:=[0]))))) (Z01 (QE.more (Z00 1) (by simp)) (Z07 (m:=false) (rs:=[0,1])))))))))
theorem sc_at_outs:Z0p ["circuit","values"] ["circuit","values"] (Z04 Z2a):=⟨rfl,rfl,rfl,by decide +kernel,rfl,by decide +kernel,by decide +kernel⟩
theorem Z9x   (F:FunD K "at_outs" "at_outs" Z2a fA fd) (hC:Cls K C) (hA_outs:NoAttr K C "outs") :
    FnOk P w K mg base CX0 1 fA fd ["circuit","values"] (spD K 2 (Z35 C)):=by
  have nd:=sc_at_outs.nd
  refine F.ok sc_at_outs rfl rfl fun cdv A outer s H E hr=>?_
  exact (Z06 (Z0q (Z2Z (fr:=[1]) rfl (by rfl) (Z1i (Z0x hC hA_outs (Z00 0))) (show List.Nodup (["out","values"]:List Str) from by decide +kernel) (by rfl) (fun _ _ _ _ _ _=>Z2u) (fun _ _ _ _ _ _=>(QE.flat (Z0D (Z00 1) (Z00 0)))))))
theorem sc_out_tables:Z0p ["circuit","fault"] ["circuit","fault"] (Z04 Z0L):=⟨rfl,rfl,rfl,by decide +kernel,rfl,by decide +kernel,by decide +kernel⟩
theorem Z6K   (F:FunD K "out_tables" "out_tables" Z0L fA fd) (c_at_outs:Z0c P w K mg base "at_outs" [] 1 2 (Z35 C)) (c_tables:Z0c P w K mg base "tables" [] 4 2 (Z2F C)) :
    FnOk P w K mg base CX0 5 fA fd ["circuit","fault"] (spD K 2 (Z0S C)):=by
  have nd:=sc_out_tables.nd
  refine F.ok sc_out_tables rfl rfl fun cdv A outer s H E hr=>?_
  exact (Z06 (Z0q (Z0i c_at_outs (hr.mono (by decide)) (.cons (.cons NArgs.nil)) rfl (Z01 (QE.more (Z00 0) (by simp)) (Z01 (QE.weak (Z0i c_tables (hr.mono (by decide)) (.cons (.cons NArgs.nil)) rfl (Z01 (QE.more (Z00 0) (by simp)) (Z01 (QE.more (Z00 1) (by simp)) (Z07 (m:=false) (rs:=[0,1])))))) (Z07 (m:=false) (rs:=[0])))))))
theorem sc_sources_of:Z0p ["circuit","wire"] ["circuit","wire"] (Z04 Z15):=⟨rfl,rfl,rfl,by decide +kernel,rfl,by decide +kernel,by decide +kernel⟩
theorem Z6J   (F:FunD K "sources_of" "sources_of" Z15 fA fd) (c_leg_wires:Z0c P w K mg base "leg_wires" [] 1 1 (Z0C C)) (hC:Cls K C) (hA_ins:NoAttr K C "ins") (hA_rows:NoAttr K C "rows") :
    FnOk P w K mg base CX0 2 fA fd ["circuit","wire"] (spD K 2 (Z0M C)):=by
  have nd:=sc_sources_of.nd
  refine F.ok sc_sources_of rfl rfl fun cdv A outer s H E hr=>?_
  exact (Z05 (Z1o (Zao (Z00 1) (Z0x hC hA_ins (Z00 0))) (Z06 (Z0q (Z1b Z07))) Z0r)
      (Z06 (Z0q (Z0i c_leg_wires (hr.mono (by decide)) (.cons NArgs.nil) rfl (Z01 (QE.more (Z0D (Z0x hC hA_rows (Z00 0)) (qp (Z0m Z1S (Z00 1) (Z0x hC hA_ins (Z00 0))))) (by simp)) (Z07 (m:=false) (rs:=[0])))))))
theorem sc_needed:Z0p ["circuit","marked","out","wire","source"] ["circuit"] (Z04 Z2A):=⟨rfl,rfl,rfl,by decide +kernel,rfl,by decide +kernel,by decide +kernel⟩
theorem ZaK   (F:FunD K "needed" "needed" Z2A fA fd) (c_sources_of:Z0c P w K mg base "sources_of" [] 2 2 (Z0M C)) (z_len:mg "len" = none) (z_range:mg "range" = none) (z_sorted:mg "sorted" = none) (hC:Cls K C) (hA_ins:NoAttr K C "ins") (hA_outs:NoAttr K C "outs") (hA_rows:NoAttr K C "rows") :
    FnOk P w K mg base CX0 3 fA fd ["circuit"] (spD K 1 (Z2p C)):=by
  have nd:=sc_needed.nd
  refine F.ok sc_needed rfl rfl fun cdv A outer s H E hr=>?_
  exact (Z05 (Z0h (i:=1) nd rfl (Or.inl rfl) Z8Q)
      (Z05 (Z1l rfl PassesOwn.never (Z1i (Z0x hC hA_outs (Z00 0))) (Z1f (i:=2) nd rfl (Or.inl rfl)) (Z06 (Z4K (Z4Q hr) 1 (Z00 2) (qp Z89))))
      (Z05 (Z1l rfl PassesOwn.never (Zar (rs:=[]) (by rfl) z_range (Z01 (QE.weak (qp (Z0m Z1S (qp (Z0m Z1T (Z0x hC hA_ins (Z00 0)) (qp (Z1W (by rfl) z_len (Z0x hC hA_rows (Z00 0)))))) (qp Z08)))) (Z01 (QE.weak (qp (Z0m Z1S (Z0x hC hA_ins (Z00 0)) (qp Z08)))) (Z01 (QE.weak (qp Zau)) (Z07 (m:=false) (rs:=[])))))) (Z1f (i:=3) nd rfl (Or.inl rfl)) (Z06 (Z1o (ZeK (Z4Q hr) (Z00 3) (Z00 1)) (Z06 (Z1l rfl PassesOwn.never (Z1i (m1:=true) (rs:=[]) (Z0i c_sources_of (hr.mono (by decide)) (.cons (.cons NArgs.nil)) rfl (Z01 (QE.more (Z00 0) (by simp)) (Z01 (QE.more (Z00 3) (by simp)) (Z07 (m:=false) (rs:=[0,3])))))) (Z1f (i:=4) nd rfl (Or.inl rfl)) (Z06 (Z4K (Z4Q hr) 1 (Z00 4) (qp Z89))))) Z0r)))
      (Z06 (Z0q (qp (ZbY rfl (by rfl) z_sorted (Z00 1))))))))
theorem sc_bits_to_stick:Z0p ["circuit","wire"] ["circuit","wire"] (Z04 Z0J):=⟨rfl,rfl,rfl,by decide +kernel,rfl,by decide +kernel,by decide +kernel⟩
theorem Z5a   (F:FunD K "bits_to_stick" "bits_to_stick" Z0J fA fd) (hC:Cls K C) (hA_ins:NoAttr K C "ins") (hA_rows:NoAttr K C "rows") :
    FnOk P w K mg base CX0 1 fA fd ["circuit","wire"] (spD K 2 (Z0k C)):=by
  have nd:=sc_bits_to_stick.nd
  refine F.ok sc_bits_to_stick rfl rfl fun cdv A outer s H E hr=>?_
  exact (Z05 (Z1o (QW.qt (Z3F (ZbX (Z00 1) (Z0x hC hA_ins (Z00 0))) (Z3E (Z1V (Z1Q hr) (Z0D (Z0D (Z0x hC hA_rows (Z00 0)) (qp (Z0m Z1S (Z00 1) (Z0x hC hA_ins (Z00 0))))) (qp Z08)) (qp Z0w))))) (Z06 (Z0q (Z1b (Z01 (qp (Z0m Z1S (qp Z08) (Z0D (Z0D (Z0x hC hA_rows (Z00 0)) (qp (Z0m Z1S (Z00 1) (Z0x hC hA_ins (Z00 0))))) (qp Z08)))) Z07)))) Z0r)
      (Z06 (Z0q (Z1b (Z01 (qp Z08) (Z01 (qp Z08) Z07))))))
theorem sc_all_faults:Z0p ["circuit","faults","wire","bit","leg","source"] ["circuit"] (Z04 Z1a):=⟨rfl,rfl,rfl,by decide +kernel,rfl,by decide +kernel,by decide +kernel⟩
theorem Z6P   (F:FunD K "all_faults" "all_faults" Z1a fA fd) (c_bits_to_stick:Z0c P w K mg base "bits_to_stick" [] 1 2 (Z0k C)) (c_needed:Z0c P w K mg base "needed" [] 3 1 (Z2p C)) (c_sources_of:Z0c P w K mg base "sources_of" [] 2 2 (Z0M C)) (z_enumerate:mg "enumerate" = none) :
    FnOk P w K mg base CX0 4 fA fd ["circuit"] (spD K 1 (Z27 C)):=by
  have nd:=sc_all_faults.nd
  refine F.ok sc_all_faults rfl rfl fun cdv A outer s H E hr=>?_
  exact (Z05 (Z0h (i:=1) nd rfl (Or.inl rfl) (Z1b Z07))
      (Z05 (Z1l rfl PassesOwn.never (Z1i (m1:=true) (rs:=[]) (Z0i c_needed (hr.mono (by decide)) (.cons NArgs.nil) rfl (Z01 (QE.more (Z00 0) (by simp)) (Z07 (m:=false) (rs:=[0]))))) (Z1f (i:=2) nd rfl (Or.inl rfl)) (Z05 (Z1l rfl PassesOwn.never (Z1i (m1:=true) (rs:=[]) (Z0i c_bits_to_stick (hr.mono (by decide)) (.cons (.cons NArgs.nil)) rfl (Z01 (QE.more (Z00 0) (by simp)) (Z01 (QE.more (Z00 2) (by simp)) (Z07 (m:=false) (rs:=[0,2])))))) (Z1f (i:=3) nd rfl (Or.inl rfl)) (Z06 (Z2y 1 (Z1F (Z01 (qp Z0w) (Z01 (QE.flat (Z00 2)) (Z01 (QE.flat (Z00 3)) Z07)))))))
      (Z06 (Z1l rfl PassesOwn.never (Z5r (m1:=true) (rs:=[]) (by rfl) z_enumerate (Z01 (Z0i c_sources_of (hr.mono (by decide)) (.cons (.cons NArgs.nil)) rfl (Z01 (QE.more (Z00 0) (by simp)) (Z01 (QE.more (Z00 2) (by simp)) (Z07 (m:=false) (rs:=[0,2]))))) Z07)) (Z5s (is:=[4,5]) rfl (Z1C (Z1G (i:=4) nd rfl (Or.inl rfl)) (Z1C (Z1G (i:=5) nd rfl (Or.inl rfl)) Z4b)) rfl) (Z06 (Z1l rfl PassesOwn.never (Z1i (m1:=true) (rs:=[]) (Z0i c_bits_to_stick (hr.mono (by decide)) (.cons (.cons NArgs.nil)) rfl (Z01 (QE.more (Z00 0) (by simp)) (Z01 (QE.more (Z00 5) (by simp)) (Z07 (m:=false) (rs:=[0,5])))))) (Z1f (i:=3) nd rfl (Or.inl rfl)) (Z06 (Z2y 1 (Z1F (Z01 (qp Z0w) (Z01 (QE.flat (Z00 2)) (Z01 (QE.flat (Z00 4)) (Z01 (QE.flat (Z00 3)) Z07)))))))))))))
      (Z06 (Z4a (i:=1)))))
theorem sc_differing:Z0p ["one_tables","other_tables","found","one","other"] ["one_tables","other_tables"] (Z04 Z1u):=⟨rfl,rfl,rfl,by decide +kernel,rfl,by decide +kernel,by decide +kernel⟩
theorem Z7z   (F:FunD K "differing" "differing" Z1u fA fd) (z_zip:mg "zip" = none) :
    FnOk P w K mg base CX0 1 fA fd ["one_tables","other_tables"] (spD K 2 (Z1w C)):=by
  have nd:=sc_differing.nd
  refine F.ok sc_differing rfl rfl fun cdv A outer s H E hr=>?_
  exact (Z05 (Z0h (i:=2) nd rfl (Or.inl rfl) (qp Z08))
      (Z05 (Z1l rfl PassesOwn.never (ZeN (rs:=[0,1]) (by rfl) z_zip (Z01 (QE.more (Z00 0) (by simp)) (Z01 (QE.more (Z00 1) (by simp)) (Z07 (m:=false) (rs:=[0,1]))))) (Z5s (is:=[3,4]) rfl (Z1C (Z1G (i:=3) nd rfl (Or.inl rfl)) (Z1C (Z1G (i:=4) nd rfl (Or.inl rfl)) Z4b)) rfl) (Z06 (Z0h (i:=2) nd rfl (Or.inl rfl) (qp (Z0m ZaG (Z00 2) (qp (Z0m Z5v (Z00 3) (Z00 4))))))))
      (Z06 (Z0q (QE.flat (Z00 2))))))
theorem sc_first_idle:Z0p ["circuit","good","fault"] ["circuit"] (Z04 Z19):=⟨rfl,rfl,rfl,by decide +kernel,rfl,by decide +kernel,by decide +kernel⟩
theorem Z6O   (F:FunD K "first_idle" "first_idle" Z19 fA fd) (c_all_faults:Z0c P w K mg base "all_faults" [] 4 1 (Z27 C)) (c_differing:Z0c P w K mg base "differing" [] 1 2 (Z1w C)) (c_out_tables_d:Z0c P w K mg base "out_tables" [.non] 5 2 (Z0S C)) (c_out_tables:Z0c P w K mg base "out_tables" [] 5 2 (Z0S C)) :
    FnOk P w K mg base CX0 6 fA fd ["circuit"] (spD K 1 (Z1J C)):=by
  have nd:=sc_first_idle.nd
  refine F.ok sc_first_idle rfl rfl fun cdv A outer s H E hr=>?_
  exact (Z05 (Z0h (i:=1) nd rfl (Or.inl rfl) (Z0i c_out_tables_d (hr.mono (by decide)) (.cons NArgs.nil) rfl (Z01 (QE.more (Z00 0) (by simp)) (Z07 (m:=false) (rs:=[0])))))
      (Z05 (Z1l rfl PassesOwn.never (Z1i (m1:=true) (rs:=[]) (Z0i c_all_faults (hr.mono (by decide)) (.cons NArgs.nil) rfl (Z01 (QE.more (Z00 0) (by simp)) (Z07 (m:=false) (rs:=[0]))))) (Z1f (i:=2) nd rfl (Or.inl rfl)) (Z06 (Z1o (Z1V (Z1Q hr) (Z0i c_differing (hr.mono (by decide)) (.cons (.cons NArgs.nil)) rfl (Z01 (QE.more (Z00 1) (by simp)) (Z01 (QE.weak (Z0i c_out_tables (hr.mono (by decide)) (.cons (.cons NArgs.nil)) rfl (Z01 (QE.more (Z00 0) (by simp)) (Z01 (QE.more (Z00 2) (by simp)) (Z07 (m:=false) (rs:=[0,2])))))) (Z07 (m:=false) (rs:=[1]))))) (qp Z08)) (Z06 (Z0q (QE.flat (Z00 2)))) Z0r)))
      (Z06 (Z0q (qp Z6d)))))
theorem sc_moved:Z0p ["row","places"] ["row","places"] (Z04 Z3c):=⟨rfl,rfl,rfl,by decide +kernel,rfl,by decide +kernel,by decide +kernel⟩
theorem Zcc   (F:FunD K "moved" "moved" Z3c fA fd) (c_leg_wires:Z0c P w K mg base "leg_wires" [] 1 1 (Z0C C)) (z_tuple:mg "tuple" = none) :
    FnOk P w K mg base CX0 2 fA fd ["row","places"] (spD K 2 (Z4c C)):=by
  have nd:=sc_moved.nd
  refine F.ok sc_moved rfl rfl fun cdv A outer s H E hr=>?_
  exact (Z05 (Z1o (Z1V (Z1Q hr) (Z0D (Z00 0) (qp Z08)) (qp Z0w)) (Z06 (Z0q (QE.flat (Z00 0)))) Z0r)
      (Z06 (Z0q (qp (Z6C (by rfl) z_tuple (ZcT (Z1b (Z01 (QE.flat (Z0D (Z00 0) (qp Z08))) Z07)) (Z2Z (fr:=[1]) rfl (by rfl) (Z1i (m1:=true) (rs:=[]) (Z0i c_leg_wires (hr.mono (by decide)) (.cons NArgs.nil) rfl (Z01 (QE.more (Z00 0) (by simp)) (Z07 (m:=false) (rs:=[0]))))) (show List.Nodup (["source","places"]:List Str) from by decide +kernel) (by rfl) (fun _ _ _ _ _ _=>Z2u) (fun _ _ _ _ _ _=>(qp (Z5t (Z4Q hr) (Z00 1) (Z00 0)))))))))))
theorem sc_needed_alone:Z0p ["circuit","places","wire","rows"] ["circuit"] (Z04 Z0P):=⟨rfl,rfl,rfl,by decide +kernel,rfl,by decide +kernel,by decide +kernel⟩
theorem Z5w   (F:FunD K "needed_alone" "needed_alone" Z0P fA fd) (c_moved:Z0c P w K mg base "moved" [] 2 2 (Z4c C)) (c_needed:Z0c P w K mg base "needed" [] 3 1 (Z2p C)) (mk_Circuit:ZbJ P w K mg base "Circuit" C 1 3 (Z1d C)) (z_len:mg "len" = none) (z_range:mg "range" = none) (hC:Cls K C) (hA_ins:NoAttr K C "ins") (hA_outs:NoAttr K C "outs") (hA_rows:NoAttr K C "rows") :
    FnOk P w K mg base CX0 4 fA fd ["circuit"] (spD K 1 (Z1z C)):=by
  have nd:=sc_needed_alone.nd
  refine F.ok sc_needed_alone rfl rfl fun cdv A outer s H E hr=>?_
  exact (Z05 (Z0h (i:=1) nd rfl (Or.inr rfl) Z8Q)
      (Z05 (Z1l rfl PassesOwn.never (Z3G (rs:=[]) (by rfl) z_range (Z01 (QE.more (Z0x hC hA_ins (Z00 0)) (by simp)) (Z07 (m:=false) (rs:=[0])))) (Z1f (i:=2) nd rfl (Or.inl rfl)) (Z06 (Z4K (Z4Q hr) 1 (Z00 2) (Z00 2))))
      (Z05 (Z0h (i:=3) nd rfl (Or.inl rfl) (Z1b Z07))
      (Z05 (Z1l rfl PassesOwn.never (Z1i (m1:=true) (rs:=[]) (Z0i c_needed (hr.mono (by decide)) (.cons NArgs.nil) rfl (Z01 (QE.more (Z00 0) (by simp)) (Z07 (m:=false) (rs:=[0]))))) (Z1f (i:=2) nd rfl (Or.inl rfl)) (Z06 (Z1o (ZbX (Z00 2) (Z0x hC hA_ins (Z00 0))) (Z05 (Z4K (Z4Q hr) 1 (Z00 2) (qp (Z0m Z1T (Z0x hC hA_ins (Z00 0)) (qp (Z1W (by rfl) z_len (Z00 3))))))
      (Z06 (Z2y 3 (Z0i c_moved (hr.mono (by decide)) (.cons (.cons NArgs.nil)) rfl (Z01 (QE.more (Z0D (Z0x hC hA_rows (Z00 0)) (qp (Z0m Z1S (Z00 2) (Z0x hC hA_ins (Z00 0))))) (by simp)) (Z01 (QE.more (Z00 1) (by simp)) (Z07 (m:=false) (rs:=[0,1])))))))) Z0r)))
      (Z06 (Z0q (ZbZ mk_Circuit (hr.mono (by decide)) (.cons (.cons (.cons NArgs.nil))) (Z01 (QE.more (Z0x hC hA_ins (Z00 0)) (by simp)) (Z01 (QE.more (Z00 3) (by simp)) (Z01 (QE.weak (Z2Z (fr:=[1]) rfl (by rfl) (Z1i (Z0x hC hA_outs (Z00 0))) (show List.Nodup (["out","places"]:List Str) from by decide +kernel) (by rfl) (fun _ _ _ _ _ _=>Z2u) (fun _ _ _ _ _ _=>(qp (Z5t (Z4Q hr) (Z00 1) (Z00 0)))))) (Z07 (m:=false) (rs:=[0,3]))))))))))))
theorem sc_plain_row:Z0p ["kind","legs","ones","bearers"] ["kind","legs","ones","bearers"] (Z04 Z1p):=⟨rfl,rfl,rfl,by decide +kernel,rfl,by decide +kernel,by decide +kernel⟩
theorem Z7u   (F:FunD K "plain_row" "plain_row" Z1p fA fd) (z_tuple:mg "tuple" = none) :
    FnOk P w K mg base CX0 1 fA fd ["kind","legs","ones","bearers"] (spD K 4 (Z1I C)):=by
  have nd:=sc_plain_row.nd
  refine F.ok sc_plain_row rfl rfl fun cdv A outer s H E hr=>?_
  exact (Z05 (Z1o (QW.qt (Z3F (Z1V (Z1Q hr) (Z00 0) (qp Z0w)) (Z3E (ZfK (Zdr hr) (Z00 2) (Z00 1))))) (Z06 (Z0q (Z1F (Z01 (qp Z0w) (Z01 (qp (Z5t (Z4Q hr) (Z00 3) (qp (Z0m Z5v (qp (Z0m Z5v (Z0D (Z00 1) (qp Z08)) (Z0D (Z00 1) (qp Z08)))) (Z00 2))))) Z07))))) Z0r)
      (Z06 (Z0q (qp (Z6C (by rfl) z_tuple (ZcT (Z1b (Z01 (QE.flat (Z00 0)) Z07)) (Z2Z (fr:=[3]) rfl (by rfl) (Z1i (Z00 1)) (show List.Nodup (["leg","bearers"]:List Str) from by decide +kernel) (by rfl) (fun _ _ _ _ _ _=>Z2u) (fun _ _ _ _ _ _=>(qp (Z5t (Z4Q hr) (Z00 1) (Z00 0)))))))))))
theorem sc_without_spare:Z0p ["circuit","fault","values","ones","rows","bearers","wire","table","row","legs"] ["circuit","fault"] (Z04 Z0I):=⟨rfl,rfl,rfl,by decide +kernel,rfl,by decide +kernel,by decide +kernel⟩
theorem Z59   (F:FunD K "without_spare" "without_spare" Z0I fA fd) (c_full_table:Z0c P w K mg base "full_table" [] 1 1 (Z0T C)) (c_input_tables:Z0c P w K mg base "input_tables" [] 2 1 (Z0W C)) (c_leg_values:Z0c P w K mg base "leg_values" [] 2 5 (Z0E C)) (c_needed:Z0c P w K mg base "needed" [] 3 1 (Z2p C)) (c_needed_alone:Z0c P w K mg base "needed_alone" [] 4 1 (Z1z C)) (c_plain_row:Z0c P w K mg base "plain_row" [] 1 4 (Z1I C)) (c_tables:Z0c P w K mg base "tables" [] 4 2 (Z2F C)) (mk_Circuit:ZbJ P w K mg base "Circuit" C 1 3 (Z1d C)) (z_enumerate:mg "enumerate" = none) (z_len:mg "len" = none) (hC:Cls K C) (hA_ins:NoAttr K C "ins") (hA_outs:NoAttr K C "outs") (hA_rows:NoAttr K C "rows") :
    FnOk P w K mg base CX0 5 fA fd ["circuit","fault"] (spD K 2 (Z13 C)):=by
  have nd:=sc_without_spare.nd
  refine F.ok sc_without_spare rfl rfl fun cdv A outer s H E hr=>?_
  exact (Z05 (Z0h (i:=2) nd rfl (Or.inr rfl) (Z0i c_tables (hr.mono (by decide)) (.cons (.cons NArgs.nil)) rfl (Z01 (QE.more (Z00 0) (by simp)) (Z01 (QE.more (Z00 1) (by simp)) (Z07 (m:=false) (rs:=[0,1]))))))
      (Z05 (Z0h (i:=3) nd rfl (Or.inl rfl) (Z0i c_full_table (hr.mono (by decide)) (.cons NArgs.nil) rfl (Z01 (QE.more (Z0x hC hA_ins (Z00 0)) (by simp)) (Z07 (m:=false) (rs:=[0])))))
      (Z05 (Z0h (i:=4) nd rfl (Or.inl rfl) (Z1b (Z01 (Z1F (Z01 (qp Z0w) (Z01 (qp Z08) Z07))) (Z01 (Z1F (Z01 (qp Z0w) (Z01 (qp Z08) Z07))) Z07))))
      (Z05 (Z0h (i:=5) nd rfl (Or.inr rfl) (ZdA (Z8P (qp Z08) (Z0x hC hA_ins (Z00 0)) (Z8P (Z00 3) (qp (Z0m Z1T (Z0x hC hA_ins (Z00 0)) (qp Z08))) Zdx))))
      (Z05 (Z1l rfl PassesOwn.never (Z5r (m1:=true) (rs:=[]) (by rfl) z_enumerate (Z01 (Z0i c_input_tables (hr.mono (by decide)) (.cons NArgs.nil) rfl (Z01 (QE.more (Z0x hC hA_ins (Z00 0)) (by simp)) (Z07 (m:=false) (rs:=[0])))) Z07)) (Z5s (is:=[6,7]) rfl (Z1C (Z1G (i:=6) nd rfl (Or.inl rfl)) (Z1C (Z1G (i:=7) nd rfl (Or.inl rfl)) Z4b)) rfl) (Z06 (Z4K (Z4Q hr) 5 (Z00 7) (Z00 6))))
      (Z05 (Z1l rfl PassesOwn.never (Z1i (m1:=true) (rs:=[]) (Z0i c_needed (hr.mono (by decide)) (.cons NArgs.nil) rfl (Z01 (QE.more (Z00 0) (by simp)) (Z07 (m:=false) (rs:=[0]))))) (Z1f (i:=6) nd rfl (Or.inl rfl)) (Z06 (Z1o (Zan (Z4Q hr) (Z0D (Z00 2) (Z00 6)) (Z00 5)) (Z05 (Z0h (i:=8) nd rfl (Or.inl rfl) (QE.flat (Z0D (Z0x hC hA_rows (Z00 0)) (qp (Z0m Z1S (Z00 6) (Z0x hC hA_ins (Z00 0)))))))
      (Z05 (Z0h (i:=9) nd rfl (Or.inl rfl) (Z0i c_leg_values (hr.mono (by decide)) (.cons (.cons (.cons (.cons (.cons NArgs.nil))))) rfl (Z01 (QE.more (Z00 8) (by simp)) (Z01 (QE.more (Z00 6) (by simp)) (Z01 (QE.more (Z00 2) (by simp)) (Z01 (QE.more (Z00 3) (by simp)) (Z01 (QE.more (Z00 1) (by simp)) (Z07 (m:=false) (rs:=[8,6,2,3,1])))))))))
      (Z05 (Z4K (Z4Q hr) 5 (Z0D (Z00 2) (Z00 6)) (qp (Z0m Z1T (Z0x hC hA_ins (Z00 0)) (qp (Z1W (by rfl) z_len (Z00 4))))))
      (Z06 (Z2y 4 (Z0i c_plain_row (hr.mono (by decide)) (.cons (.cons (.cons (.cons NArgs.nil)))) rfl (Z01 (QE.more (Z0D (Z00 8) (qp Z08)) (by simp)) (Z01 (QE.more (Z00 9) (by simp)) (Z01 (QE.more (Z00 3) (by simp)) (Z01 (QE.more (Z00 5) (by simp)) (Z07 (m:=false) (rs:=[8,9,3,5])))))))))))) Z0r)))
      (Z06 (Z0q (Z0i c_needed_alone (hr.mono (by decide)) (.cons NArgs.nil) rfl (Z01 (QE.weak (ZbZ mk_Circuit (hr.mono (by decide)) (.cons (.cons (.cons NArgs.nil))) (Z01 (QE.more (Z0x hC hA_ins (Z00 0)) (by simp)) (Z01 (QE.more (Z00 4) (by simp)) (Z01 (QE.weak (Z2Z (fr:=[5,2]) rfl (by rfl) (Z1i (Z0x hC hA_outs (Z00 0))) (show List.Nodup (["out","bearers","values"]:List Str) from by decide +kernel) (by rfl) (fun _ _ _ _ _ _=>Z2u) (fun _ _ _ _ _ _=>(qp (Z5t (Z4Q hr) (Z00 1) (Z0D (Z00 2) (Z00 0))))))) (Z07 (m:=false) (rs:=[0,4]))))))) (Z07 (m:=false) (rs:=[]))))))))))))
theorem sc_lean:Z0p ["circuit","found","fault"] ["circuit"] (Z04 Z4n):=⟨rfl,rfl,rfl,by decide +kernel,rfl,by decide +kernel,by decide +kernel⟩
theorem ZdY   (F:FunD K "lean" "lean" Z4n fA fd) (c_first_idle:Z0c P w K mg base "first_idle" [] 6 1 (Z1J C)) (c_without_spare:Z0c P w K mg base "without_spare" [] 5 2 (Z13 C)) :
    FnOk P w K mg base CX0 7 fA fd ["circuit"] (spD K 1 (Z50 C)):=by
  have nd:=sc_lean.nd
  refine F.ok sc_lean rfl rfl fun cdv A outer s H E hr=>?_
  exact (Z05 (Z0h (i:=1) nd rfl (Or.inl rfl) (Z0i c_without_spare (hr.mono (by decide)) (.cons (.cons NArgs.nil)) rfl (Z01 (QE.more (Z00 0) (by simp)) (Z01 (QE.weak (qp Z6d)) (Z07 (m:=false) (rs:=[0]))))))
      (Z05 (Z0h (i:=2) nd rfl (Or.inl rfl) (Z0i c_first_idle (hr.mono (by decide)) (.cons NArgs.nil) rfl (Z01 (QE.more (Z00 1) (by simp)) (Z07 (m:=false) (rs:=[1])))))
      (Z05 (Z8O PassesOwn.never (Z5q (Z00 2)) (Z05 (Z0h (i:=1) nd rfl (Or.inl rfl) (Z0i c_without_spare (hr.mono (by decide)) (.cons (.cons NArgs.nil)) rfl (Z01 (QE.more (Z00 1) (by simp)) (Z01 (QE.more (Z00 2) (by simp)) (Z07 (m:=false) (rs:=[1,2]))))))
      (Z06 (Z0h (i:=2) nd rfl (Or.inl rfl) (Z0i c_first_idle (hr.mono (by decide)) (.cons NArgs.nil) rfl (Z01 (QE.more (Z00 1) (by simp)) (Z07 (m:=false) (rs:=[1]))))))))
      (Z06 (Z4a (i:=1))))))
theorem sc_l_mixed:Z0p ["_law_cell","_law_k","_law_number"] ["_law_cell","_law_k"] (Z04 Z29):=⟨rfl,rfl,rfl,by decide +kernel,rfl,by decide +kernel,by decide +kernel⟩
theorem Z9w   (F:FunD K "_law_mixed" "_law_mixed" Z29 fA fd)  :
    FnOk P w K mg base CX0 1 fA fd ["_law_cell","_law_k"] (spD K 2 (Z1c C)):=by
  have nd:=sc_l_mixed.nd
  refine F.ok sc_l_mixed rfl rfl fun cdv A outer s H E hr=>?_
  exact (Z05 (Z1o (ZbX (Z00 0) (qp (Z0l ZcX (qp Z08) (qp Z08)))) (Z06 (Z0q (qp (Z0l Z1Y (qp (Z0l Z2c (qp (Z0m Z1S (Z00 0) (qp (Z0l ZcX (qp Z08) (qp Z08))))) (qp (Z0l Z2v (qp Z08) (qp (Z0l Z2w (qp Z08) (qp (Z0l Z1Y (Z00 1) (qp Z08))))))))) (qp (Z0l Z2v (qp Z08) (qp Z08))))))) Z0r)
      (Z05 (Z0h (i:=2) nd rfl (Or.inl rfl) (qp (Z0l Z1Y (qp (Z0l Z2w (qp (Z0m Z1T (qp (Z0m Z1T (qp (Z0m Z1T (qp (Z0l Z2w (Z00 0) (Z00 0))) (qp (Z0l Z2w (qp Z08) (Z00 0))))) (qp (Z0l Z2w (qp Z08) (Z00 1))))) (qp Z08))) (qp Z08))) (qp Z08))))
      (Z06 (Z0q (qp (Z0l Z1Y (qp (Z0m Z1T (qp (Z0l Z2w (Z00 2) (Z00 2))) (qp Z08))) (qp Z08)))))))
theorem sc_l_row:Z0p ["_law_mixed_here","_law_wires","_law_near","_law_one","_law_other","_law_way"] ["_law_mixed_here","_law_wires","_law_near"] (Z04 Z3d):=⟨rfl,rfl,rfl,by decide +kernel,rfl,by decide +kernel,by decide +kernel⟩
theorem Zcd   (F:FunD K "_law_row" "_law_row" Z3d fA fd) (z_min:mg "min" = none) :
    FnOk P w K mg base CX0 1 fA fd ["_law_mixed_here","_law_wires","_law_near"] (spD K 3 (Z3I C)):=by
  have nd:=sc_l_row.nd
  refine F.ok sc_l_row rfl rfl fun cdv A outer s H E hr=>?_
  exact (Z05 (Z0h (i:=3) nd rfl (Or.inl rfl) (qp (Z0l Z1Y (qp (Z0l Z2c (Z00 0) (qp Z08))) (Z00 1))))
      (Z05 (Z0h (i:=4) nd rfl (Or.inl rfl) (qp (Z0l Z1Y (qp (Z0l Z2c (Z00 0) (qp Z08))) (Z00 1))))
      (Z05 (Z1o (QW.qt (Z3F (Z8M (Z00 2)) (Z3E (Z1V (Z1Q hr) (qp (Z0l Z1Y (qp (Z0l Z2c (Z00 0) (qp Z08))) (qp Z08))) (qp Z08))))) (Z06 (Z0h (i:=3) nd rfl (Or.inl rfl) (qp (Z0m Z1S (qp (Z0m Z1S (Z00 1) (qp Z08))) (qp (Z0l Z1Y (qp (Z0l Z2c (Z00 0) (qp Z08))) (qp (ZeP rfl (by rfl) z_min (Z01 (QE.more (Z00 1) (by simp)) (Z01 (QE.weak (qp Z08)) (Z07 (m:=false) (rs:=[1])))))))))))) Z0r)
      (Z05 (Z0h (i:=5) nd rfl (Or.inl rfl) (qp (Z0l Z1Y (Z00 0) (qp Z08))))
      (Z05 (Z1o (Z1V (Z1Q hr) (Z00 5) (qp Z08)) (Z06 (Z0q (Z1F (Z01 (qp Z0w) (Z01 (qp (Z0l Z1Y (qp (Z0l Z2c (Z00 0) (qp Z08))) (qp Z08))) Z07))))) Z0r)
      (Z05 (Z1o (Zao (Z00 5) (qp Z08)) (Z06 (Z0q (Z1F (Z01 (qp Z0w) (Z01 (QE.flat (Z00 3)) Z07))))) Z0r)
      (Z06 (Z0q (Z1F (Z01 (QE.flat (Z0D (QE.weak (rs:=[]) (Z1b (Z01 (qp Z0w) (Z01 (qp Z0w) (Z01 (qp Z0w) (Z01 (qp Z0w) (Z01 (qp Z0w) Z07))))))) (qp (Z0l Z1Y (Z00 5) (qp Z08))))) (Z01 (QE.flat (Z00 3)) (Z01 (QE.flat (Z00 4)) Z07))))))))))))
theorem sc_l_circuit:Z0p ["_law_cells","_law_ins","_law_most","_law_many","_law_rows","_law_k","_law_cell","_law_mixed_here","_law_last","_law_outs"] ["_law_cells","_law_ins","_law_most","_law_many"] (Z04 Z1s):=⟨rfl,rfl,rfl,by decide +kernel,rfl,by decide +kernel,by decide +kernel⟩
theorem Z7x   (F:FunD K "_law_circuit" "_law_circuit" Z1s fA fd) (c_l_mixed:Z0c P w K mg base "_law_mixed" [] 1 2 (Z1c C)) (c_l_row:Z0c P w K mg base "_law_row" [] 1 3 (Z3I C)) (z_enumerate:mg "enumerate" = none) (z_int:mg "int" = none) (z_len:mg "len" = none) (z_range:mg "range" = none) (z_sum:mg "sum" = none) :
    FnOk P w K mg base CX0 2 fA fd ["_law_cells","_law_ins","_law_most","_law_many"] (spD K 4 (Z22 C)):=by
  have nd:=sc_l_circuit.nd
  refine F.ok sc_l_circuit rfl rfl fun cdv A outer s H E hr=>?_
  exact (Z05 (Z0h (i:=4) nd rfl (Or.inl rfl) (Z1b Z07))
      (Z05 (Z1l rfl PassesOwn.never (Z5r (m1:=true) (rs:=[]) (by rfl) z_enumerate (Z01 (qp (Z3T (Z00 0) Z4M (Z4L (Z00 2)))) Z07)) (Z5s (is:=[5,6]) rfl (Z1C (Z1G (i:=5) nd rfl (Or.inl rfl)) (Z1C (Z1G (i:=6) nd rfl (Or.inl rfl)) Z4b)) rfl) (Z05 (Z0h (i:=7) nd rfl (Or.inl rfl) (Z0i c_l_mixed (hr.mono (by decide)) (.cons (.cons NArgs.nil)) rfl (Z01 (QE.more (Z00 6) (by simp)) (Z01 (QE.more (Z00 5) (by simp)) (Z07 (m:=false) (rs:=[6,5]))))))
      (Z06 (Z1o (Z1V (Z1Q hr) (qp (Z0m Z1T (Z00 1) (qp (Z1W (by rfl) z_len (Z00 4))))) (qp Z08)) (Z06 (Z2y 4 (Z1F (Z01 (qp Z0w) (Z01 (qp (Z0l Z1Y (Z00 7) (qp Z08))) Z07))))) (Z06 (Z2y 4 (Z0i c_l_row (hr.mono (by decide)) (.cons (.cons (.cons NArgs.nil))) rfl (Z01 (QE.more (Z00 7) (by simp)) (Z01 (QE.weak (qp (Z0m Z1T (Z00 1) (qp (Z1W (by rfl) z_len (Z00 4)))))) (Z01 (QE.weak (qp (ZeQ (Z1Q hr) (qp (Z0l Z1Y (Z00 6) (qp Z08))) (qp Z08)))) (Z07 (m:=false) (rs:=[7]))))))))))))
      (Z05 (Z1o (Z1V (Z1Q hr) (qp (Z0m Z1T (Z00 1) (qp (Z1W (by rfl) z_len (Z00 4))))) (qp Z08)) (Z06 (Z2y 4 (Z1F (Z01 (qp Z0w) (Z01 (qp Z08) Z07))))) Z0r)
      (Z05 (Z0h (i:=8) nd rfl (Or.inl rfl) (qp (Z0m Z1S (qp (Z0m Z1T (Z00 1) (qp (Z1W (by rfl) z_len (Z00 4))))) (qp Z08))))
      (Z05 (Z0h (i:=9) nd rfl (Or.inl rfl) (Z1b Z07))
      (Z05 (Z1l rfl PassesOwn.never (Z3G (rs:=[]) (by rfl) z_range (Z01 (QE.weak (qp (Z0m Z1T (Z00 3) (qp Z08)))) (Z07 (m:=false) (rs:=[])))) (Z1f (i:=5) nd rfl (Or.inl rfl)) (Z05 (Z0h (i:=7) nd rfl (Or.inl rfl) (Z0i c_l_mixed (hr.mono (by decide)) (.cons (.cons NArgs.nil)) rfl (Z01 (QE.weak (qp (Z0m Z1T (qp (Zas rfl (by rfl) z_sum (qp (Z3T (Z00 0) Z4M (Z4L (qp Z08)))))) (qp Z08)))) (Z01 (QE.more (Z00 5) (by simp)) (Z07 (m:=false) (rs:=[5]))))))
      (Z06 (Z2y 9 (QE.flat (Z0D (QE.weak (rs:=[]) (Z1b (Z01 (QE.flat (Z00 8)) (Z01 (qp (Z0l Z1Y (qp (Z0l Z2c (Z00 7) (qp Z08))) (qp (Z0m Z1T (Z00 8) (qp Z08))))) Z07)))) (qp (Zdz (by rfl) z_int (qp (ZfL (qp (Zav ZdW (qp (Z0l Z1Y (Z00 7) (qp Z08))) (qp Z08) (Z4Y _))) (ZeO (qp (Zav ZdW (Z00 5) (qp Z08) (Z4Y _))))))))))))))
      (Z06 (Zdw (i:=4) (j:=9) (by decide)))))))))
theorem sc_l_seen:Z0p ["_law_found","_law_row_here","_law_wire","_law_leg","_law_fault","_law_most"] ["_law_found","_law_row_here","_law_wire","_law_leg","_law_fault","_law_most"] (Z04 Z2B):=⟨rfl,rfl,rfl,by decide +kernel,rfl,by decide +kernel,by decide +kernel⟩
theorem ZaL   (F:FunD K "_law_seen" "_law_seen" Z2B fA fd)  :
    FnOk P w K mg base CX0 1 fA fd ["_law_found","_law_row_here","_law_wire","_law_leg","_law_fault","_law_most"] (spD K 6 (Z3h C)):=by
  have nd:=sc_l_seen.nd
  refine F.ok sc_l_seen rfl rfl fun cdv A outer s H E hr=>?_
  exact (Z05 (Z1o (QW.qt (Z3F (Z5q (Z00 4)) (Z3E (Z1V (Z1Q hr) (Z00 4) (Z1F (Z01 (QE.weak (qp Z0w)) (Z01 (QE.more (Z00 2) (by simp)) (Z01 (QE.more (Z00 3) (by simp)) (Z01 (QE.more (Z0D (Z00 4) (qp Zau)) (by simp)) (Z07 (m:=false) (rs:=[2,3,4]))))))))))) (Z06 (Z0q (qp (Z0l Z2w (Z0D (Z00 4) (qp Zau)) (Z00 5))))) Z0r)
      (Z06 (Z0q (QE.flat (Z0D (Z00 0) (Z0D (Z00 1) (qp (Z0m Z1T (qp Z08) (Z00 3)))))))))
theorem sc_l_column:Z0p ["_law_found","_law_row_here","_law_wire","_law_fault","_law_most","_law_one","_law_other"] ["_law_found","_law_row_here","_law_wire","_law_fault","_law_most"] (Z04 Z1O):=⟨rfl,rfl,rfl,by decide +kernel,rfl,by decide +kernel,by decide +kernel⟩
theorem Z8e   (F:FunD K "_law_column" "_law_column" Z1O fA fd) (c_l_seen:Z0c P w K mg base "_law_seen" [] 1 6 (Z3h C)) :
    FnOk P w K mg base CX0 2 fA fd ["_law_found","_law_row_here","_law_wire","_law_fault","_law_most"] (spD K 5 (Z1R C)):=by
  have nd:=sc_l_column.nd
  refine F.ok sc_l_column rfl rfl fun cdv A outer s H E hr=>?_
  exact (Z05 (Z1o (Z1V (Z1Q hr) (Z0D (Z00 1) (qp Z08)) (qp Z0w)) (Z06 (Z0q (qp (Z0l Z2w (Z0D (Z00 1) (qp Z08)) (Z00 4))))) Z0r)
      (Z05 (Z0h (i:=5) nd rfl (Or.inl rfl) (Z0i c_l_seen (hr.mono (by decide)) (.cons (.cons (.cons (.cons (.cons (.cons NArgs.nil)))))) rfl (Z01 (QE.more (Z00 0) (by simp)) (Z01 (QE.more (Z00 1) (by simp)) (Z01 (QE.more (Z00 2) (by simp)) (Z01 (QE.weak (qp Z08)) (Z01 (QE.more (Z00 3) (by simp)) (Z01 (QE.more (Z00 4) (by simp)) (Z07 (m:=false) (rs:=[0,1,2,3,4]))))))))))
      (Z05 (Z1o (Z1V (Z1Q hr) (Z0D (Z00 1) (qp Z08)) (qp Z0w)) (Z06 (Z0q (qp (Z0m Z1S (Z00 4) (Z00 5))))) Z0r)
      (Z05 (Z0h (i:=6) nd rfl (Or.inl rfl) (Z0i c_l_seen (hr.mono (by decide)) (.cons (.cons (.cons (.cons (.cons (.cons NArgs.nil)))))) rfl (Z01 (QE.more (Z00 0) (by simp)) (Z01 (QE.more (Z00 1) (by simp)) (Z01 (QE.more (Z00 2) (by simp)) (Z01 (QE.weak (qp Z08)) (Z01 (QE.more (Z00 3) (by simp)) (Z01 (QE.more (Z00 4) (by simp)) (Z07 (m:=false) (rs:=[0,1,2,3,4]))))))))))
      (Z05 (Z1o (Z1V (Z1Q hr) (Z0D (Z00 1) (qp Z08)) (qp Z0w)) (Z06 (Z0q (qp (Z0m Zd0 (Z00 5) (Z00 6))))) Z0r)
      (Z05 (Z1o (Z1V (Z1Q hr) (Z0D (Z00 1) (qp Z08)) (qp Z0w)) (Z06 (Z0q (qp (Z0m ZaG (Z00 5) (Z00 6))))) Z0r)
      (Z06 (Z0q (qp (Z0m Z5v (Z00 5) (Z00 6)))))))))))
theorem sc_l_tables:Z0p ["_law_ins","_law_rows","_law_fault","_law_most","_law_found","_law_wire"] ["_law_ins","_law_rows","_law_fault"] (Z04 Z1L):=⟨rfl,rfl,rfl,by decide +kernel,rfl,by decide +kernel,by decide +kernel⟩
theorem Z8b   (F:FunD K "_law_tables" "_law_tables" Z1L fA fd) (c_l_column:Z0c P w K mg base "_law_column" [] 2 5 (Z1R C)) (z_len:mg "len" = none) (z_range:mg "range" = none) (z_sum:mg "sum" = none) :
    FnOk P w K mg base CX0 3 fA fd ["_law_ins","_law_rows","_law_fault"] (spD K 3 (Z0U C)):=by
  have nd:=sc_l_tables.nd
  refine F.ok sc_l_tables rfl rfl fun cdv A outer s H E hr=>?_
  exact (Z05 (Z0h (i:=3) nd rfl (Or.inl rfl) (qp (Z0m Z1S (qp (Z0l Z2v (qp Z08) (qp (Z0l Z2v (qp Z08) (Z00 0))))) (qp Z08))))
      (Z05 (Z0h (i:=4) nd rfl (Or.inl rfl) (Z1b Z07))
      (Z05 (Z1l rfl PassesOwn.never (Z3G (rs:=[]) (by rfl) z_range (Z01 (QE.weak (qp (Z0m Z1T (Z00 0) (qp (Z1W (by rfl) z_len (Z00 1)))))) (Z07 (m:=false) (rs:=[])))) (Z1f (i:=5) nd rfl (Or.inr rfl)) (Z05 (Z1o (Zao (Z00 5) (Z00 0)) (Z06 (Z2y 4 (qp (Zas rfl (by rfl) z_sum (Z2Z (fr:=[5]) rfl (by rfl) (Z3G (rs:=[]) (by rfl) z_range (Z01 (QE.weak (qp (Z0l Z2v (qp Z08) (Z00 0)))) (Z07 (m:=false) (rs:=[])))) (show List.Nodup (["_law_given","_law_wire"]:List Str) from by decide +kernel) (by rfl) (fun _ _ _ _ _ _=>Zdu (Z1V (Z1Q hr) (qp (Z0l Z1Y (qp (Z0l Z2c (Z00 0) (qp (Z0l Z2v (qp Z08) (Z00 1))))) (qp Z08))) (qp Z08))) (fun _ _ _ _ _ _=>(qp (Z0l Z2v (qp Z08) (Z00 0))))))))) (Z06 (Z2y 4 (Z0i c_l_column (hr.mono (by decide)) (.cons (.cons (.cons (.cons (.cons NArgs.nil))))) rfl (Z01 (QE.more (Z00 4) (by simp)) (Z01 (QE.more (Z0D (Z00 1) (qp (Z0m Z1S (Z00 5) (Z00 0)))) (by simp)) (Z01 (QE.more (Z00 5) (by simp)) (Z01 (QE.more (Z00 2) (by simp)) (Z01 (QE.more (Z00 3) (by simp)) (Z07 (m:=false) (rs:=[4,1,5,2,3])))))))))))
      (Z06 (Z1o (QW.qt (Z3F (Z5q (Z00 2)) (Z3F (Z1V (Z1Q hr) (Z0D (Z00 2) (qp Z08)) (qp Z0w)) (Z3E (Z1V (Z1Q hr) (Z0D (Z00 2) (qp Z08)) (Z00 5)))))) (Z06 (Zap 4 (Z00 5) (qp (Z0l Z2w (Z0D (Z00 2) (qp Z08)) (Z00 3))))) Z0r))))
      (Z06 (Z4a (i:=4))))))
theorem sc_l_telling:Z0p ["_law_ins","_law_rows","_law_outs","_law_fault","_law_good","_law_bad","_law_found","_law_wire"] ["_law_ins","_law_rows","_law_outs","_law_fault"] (Z04 Z1r):=⟨rfl,rfl,rfl,by decide +kernel,rfl,by decide +kernel,by decide +kernel⟩
theorem Z7w   (F:FunD K "_law_telling" "_law_telling" Z1r fA fd) (c_l_tables:Z0c P w K mg base "_law_tables" [] 3 3 (Z0U C)) :
    FnOk P w K mg base CX0 4 fA fd ["_law_ins","_law_rows","_law_outs","_law_fault"] (spD K 4 (Z1v C)):=by
  have nd:=sc_l_telling.nd
  refine F.ok sc_l_telling rfl rfl fun cdv A outer s H E hr=>?_
  exact (Z05 (Z0h (i:=4) nd rfl (Or.inl rfl) (Z0i c_l_tables (hr.mono (by decide)) (.cons (.cons (.cons NArgs.nil))) rfl (Z01 (QE.more (Z00 0) (by simp)) (Z01 (QE.more (Z00 1) (by simp)) (Z01 (QE.weak (qp Z6d)) (Z07 (m:=false) (rs:=[0,1])))))))
      (Z05 (Z0h (i:=5) nd rfl (Or.inl rfl) (Z0i c_l_tables (hr.mono (by decide)) (.cons (.cons (.cons NArgs.nil))) rfl (Z01 (QE.more (Z00 0) (by simp)) (Z01 (QE.more (Z00 1) (by simp)) (Z01 (QE.more (Z00 3) (by simp)) (Z07 (m:=false) (rs:=[0,1,3])))))))
      (Z05 (Z0h (i:=6) nd rfl (Or.inl rfl) (qp Z08))
      (Z05 (Z1l rfl PassesOwn.never (Z1i (Z00 2)) (Z1f (i:=7) nd rfl (Or.inl rfl)) (Z06 (Z0h (i:=6) nd rfl (Or.inl rfl) (qp (Z0m ZaG (Z00 6) (qp (Z0m Z5v (Z0D (Z00 4) (Z00 7)) (Z0D (Z00 5) (Z00 7)))))))))
      (Z06 (Z0q (QE.flat (Z00 6))))))))
theorem sc_l_legs:Z0p ["_law_ins","_law_rows","_law_wire"] ["_law_ins","_law_rows","_law_wire"] (Z04 Z2D):=⟨rfl,rfl,rfl,by decide +kernel,rfl,by decide +kernel,by decide +kernel⟩
theorem ZaN   (F:FunD K "_law_legs" "_law_legs" Z2D fA fd) (z_list:mg "list" = none) :
    FnOk P w K mg base CX0 1 fA fd ["_law_ins","_law_rows","_law_wire"] (spD K 3 (Z2G C)):=by
  have nd:=sc_l_legs.nd
  refine F.ok sc_l_legs rfl rfl fun cdv A outer s H E hr=>?_
  exact (Z05 (Z1o (QW.qt (Zam (Zao (Z00 2) (Z00 0)) (Zal (Z1V (Z1Q hr) (Z0D (Z0D (Z00 1) (qp (Z0m Z1S (Z00 2) (Z00 0)))) (qp Z08)) (qp Z0w))))) (Z06 (Z0q (Z1b Z07))) Z0r)
      (Z06 (Z0q (qp (Z6D (by rfl) z_list (qp (Z3T (Z0D (Z00 1) (qp (Z0m Z1S (Z00 2) (Z00 0)))) (Z4L (qp Z08)) Z4M)))))))
theorem sc_l_needed:Z0p ["_law_ins","_law_rows","_law_outs","_law_wanted","_law_wire","_law_at","_law_ahead"] ["_law_ins","_law_rows","_law_outs"] (Z04 Z1M):=⟨rfl,rfl,rfl,by decide +kernel,rfl,by decide +kernel,by decide +kernel⟩
theorem Z8c   (F:FunD K "_law_needed" "_law_needed" Z1M fA fd) (c_l_legs:Z0c P w K mg base "_law_legs" [] 1 3 (Z2G C)) (z_len:mg "len" = none) (z_sorted:mg "sorted" = none) :
    FnOk P w K mg base CX0 2 fA fd ["_law_ins","_law_rows","_law_outs"] (spD K 3 (Z2l C)):=by
  have nd:=sc_l_needed.nd
  refine F.ok sc_l_needed rfl rfl fun cdv A outer s H E hr=>?_
  exact (Z05 (Z0h (i:=3) nd rfl (Or.inl rfl) (Z1b Z07))
      (Z05 (Z1l rfl PassesOwn.never (Z1i (Z00 2)) (Z1f (i:=4) nd rfl (Or.inl rfl)) (Z06 (Z1o (Z8N (Zdr hr) (Z00 4) (Z00 3)) (Z06 (Z2y 3 (QE.flat (Z00 4)))) Z0r)))
      (Z05 (Z0h (i:=5) nd rfl (Or.inl rfl) (qp Z08))
      (Z05 (Z8O PassesOwn.never (Zao (Z00 5) (qp (Z1W (by rfl) z_len (Z00 3)))) (Z05 (Z1l rfl PassesOwn.never (Z1i (m1:=true) (rs:=[]) (Z0i c_l_legs (hr.mono (by decide)) (.cons (.cons (.cons NArgs.nil))) rfl (Z01 (QE.more (Z00 0) (by simp)) (Z01 (QE.more (Z00 1) (by simp)) (Z01 (QE.more (Z0D (Z00 3) (Z00 5)) (by simp)) (Z07 (m:=false) (rs:=[0,1,3]))))))) (Z1f (i:=6) nd rfl (Or.inl rfl)) (Z06 (Z1o (Z8N (Zdr hr) (Z00 6) (Z00 3)) (Z06 (Z2y 3 (QE.flat (Z00 6)))) Z0r)))
      (Z06 (Z0h (i:=5) nd rfl (Or.inl rfl) (qp (Z0m Z1T (Z00 5) (qp Z08)))))))
      (Z06 (Z0q (qp (Zat (by rfl) z_sorted (Z00 3)))))))))
theorem sc_l_bits_at:Z0p ["_law_ins","_law_rows","_law_wire"] ["_law_ins","_law_rows","_law_wire"] (Z04 Z1t):=⟨rfl,rfl,rfl,by decide +kernel,rfl,by decide +kernel,by decide +kernel⟩
theorem Z7y   (F:FunD K "_law_bits_at" "_law_bits_at" Z1t fA fd)  :
    FnOk P w K mg base CX0 1 fA fd ["_law_ins","_law_rows","_law_wire"] (spD K 3 (Z1g C)):=by
  have nd:=sc_l_bits_at.nd
  refine F.ok sc_l_bits_at rfl rfl fun cdv A outer s H E hr=>?_
  exact (Z05 (Z1o (QW.qt (Z3F (ZbX (Z00 2) (Z00 0)) (Z3E (Z1V (Z1Q hr) (Z0D (Z0D (Z00 1) (qp (Z0m Z1S (Z00 2) (Z00 0)))) (qp Z08)) (qp Z0w))))) (Z06 (Z0q (Z1b (Z01 (qp (Z0m Z1S (qp Z08) (Z0D (Z0D (Z00 1) (qp (Z0m Z1S (Z00 2) (Z00 0)))) (qp Z08)))) Z07)))) Z0r)
      (Z06 (Z0q (Z1b (Z01 (qp Z08) (Z01 (qp Z08) Z07))))))
theorem sc_l_faults:Z0p ["_law_ins","_law_rows","_law_outs","_law_found","_law_wire","_law_leg","_law_ahead"] ["_law_ins","_law_rows","_law_outs"] (Z04 Z1N):=⟨rfl,rfl,rfl,by decide +kernel,rfl,by decide +kernel,by decide +kernel⟩
theorem Z8d   (F:FunD K "_law_faults" "_law_faults" Z1N fA fd) (c_l_bits_at:Z0c P w K mg base "_law_bits_at" [] 1 3 (Z1g C)) (c_l_legs:Z0c P w K mg base "_law_legs" [] 1 3 (Z2G C)) (c_l_needed:Z0c P w K mg base "_law_needed" [] 2 3 (Z2l C)) (z_enumerate:mg "enumerate" = none) :
    FnOk P w K mg base CX0 3 fA fd ["_law_ins","_law_rows","_law_outs"] (spD K 3 (Z2m C)):=by
  have nd:=sc_l_faults.nd
  refine F.ok sc_l_faults rfl rfl fun cdv A outer s H E hr=>?_
  exact (Z05 (Z0h (i:=3) nd rfl (Or.inl rfl) (Z1b Z07))
      (Z05 (Z1l rfl PassesOwn.never (Z1i (m1:=true) (rs:=[]) (Z0i c_l_needed (hr.mono (by decide)) (.cons (.cons (.cons NArgs.nil))) rfl (Z01 (QE.more (Z00 0) (by simp)) (Z01 (QE.more (Z00 1) (by simp)) (Z01 (QE.more (Z00 2) (by simp)) (Z07 (m:=false) (rs:=[0,1,2]))))))) (Z1f (i:=4) nd rfl (Or.inr rfl)) (Z05 (Z7m 3 3 nd rfl (Or.inl rfl) (Z2Z (fr:=[4]) rfl (by rfl) (Z1i (m1:=true) (rs:=[]) (Z0i c_l_bits_at (hr.mono (by decide)) (.cons (.cons (.cons NArgs.nil))) rfl (Z01 (QE.more (Z00 0) (by simp)) (Z01 (QE.more (Z00 1) (by simp)) (Z01 (QE.more (Z00 4) (by simp)) (Z07 (m:=false) (rs:=[0,1,4]))))))) (show List.Nodup (["_law_bit","_law_wire"]:List Str) from by decide +kernel) (by rfl) (fun _ _ _ _ _ _=>Z2u) (fun _ _ _ _ _ _=>(Z1F (Z01 (qp Z0w) (Z01 (QE.flat (Z00 1)) (Z01 (QE.flat (Z00 0)) Z07)))))))
      (Z06 (Z1l rfl PassesOwn.never (Z5r (m1:=true) (rs:=[]) (by rfl) z_enumerate (Z01 (Z0i c_l_legs (hr.mono (by decide)) (.cons (.cons (.cons NArgs.nil))) rfl (Z01 (QE.more (Z00 0) (by simp)) (Z01 (QE.more (Z00 1) (by simp)) (Z01 (QE.more (Z00 4) (by simp)) (Z07 (m:=false) (rs:=[0,1,4])))))) Z07)) (Z5s (is:=[5,6]) rfl (Z1C (Z1G (i:=5) nd rfl (Or.inr rfl)) (Z1C (Z1G (i:=6) nd rfl (Or.inl rfl)) Z4b)) rfl) (Z06 (Z7m 3 3 nd rfl (Or.inl rfl) (Z2Z (fr:=[4,5]) rfl (by rfl) (Z1i (m1:=true) (rs:=[]) (Z0i c_l_bits_at (hr.mono (by decide)) (.cons (.cons (.cons NArgs.nil))) rfl (Z01 (QE.more (Z00 0) (by simp)) (Z01 (QE.more (Z00 1) (by simp)) (Z01 (QE.more (Z00 6) (by simp)) (Z07 (m:=false) (rs:=[0,1,6]))))))) (show List.Nodup (["_law_bit","_law_wire","_law_leg"]:List Str) from by decide +kernel) (by rfl) (fun _ _ _ _ _ _=>Z2u) (fun _ _ _ _ _ _=>(Z1F (Z01 (qp Z0w) (Z01 (QE.flat (Z00 1)) (Z01 (QE.flat (Z00 2)) (Z01 (QE.flat (Z00 0)) Z07)))))))))))))
      (Z06 (Z4a (i:=3)))))
theorem sc_l_behind:Z0p ["_law_rows","_law_ins","_law_wire","_law_mixed_here","_law_one","_law_here","_law_way"] ["_law_rows","_law_ins","_law_wire","_law_mixed_here"] (Z04 Z1P):=⟨rfl,rfl,rfl,by decide +kernel,rfl,by decide +kernel,by decide +kernel⟩
theorem Z8f   (F:FunD K "_law_behind" "_law_behind" Z1P fA fd) (z_len:mg "len" = none) :
    FnOk P w K mg base CX0 1 fA fd ["_law_rows","_law_ins","_law_wire","_law_mixed_here"] (spD K 4 (Z26 C)):=by
  have nd:=sc_l_behind.nd
  refine F.ok sc_l_behind rfl rfl fun cdv A outer s H E hr=>?_
  exact (Z05 (Z0h (i:=4) nd rfl (Or.inl rfl) (qp (Z0l Z1Y (qp (Z0l Z2c (Z00 3) (qp Z08))) (qp (Z0m Z1T (Z00 1) (qp (Z1W (by rfl) z_len (Z00 0))))))))
      (Z05 (Z0h (i:=5) nd rfl (Or.inl rfl) (qp (Z0m Z1T (Z00 1) (qp (Z1W (by rfl) z_len (Z00 0))))))
      (Z05 (Z0h (i:=6) nd rfl (Or.inl rfl) (qp (Z0l Z1Y (Z00 3) (qp Z08))))
      (Z05 (Z1o (Z1V (Z1Q hr) (Z00 6) (qp Z08)) (Z06 (Z0q (Z1b (Z01 (Z1F (Z01 (QE.flat (Z0D (QE.weak (rs:=[]) (Z1b (Z01 (qp Z0w) (Z01 (qp Z0w) Z07)))) (qp (Z0l Z1Y (qp (Z0l Z2c (Z00 3) (qp Z08))) (qp Z08))))) (Z01 (QE.flat (Z00 2)) (Z01 (QE.flat (Z00 2)) Z07)))) Z07)))) Z0r)
      (Z05 (Z1o (Z1V (Z1Q hr) (Z00 6) (qp Z08)) (Z06 (Z0q (Z1b (Z01 (Z1F (Z01 (qp Z0w) (Z01 (QE.flat (Z00 2)) (Z01 (QE.flat (Z00 4)) Z07)))) (Z01 (Z1F (Z01 (qp Z0w) (Z01 (QE.flat (Z00 2)) (Z01 (QE.flat (Z00 5)) Z07)))) Z07))))) Z0r)
      (Z05 (Z1o (Z1V (Z1Q hr) (Z00 6) (qp Z08)) (Z06 (Z0q (Z1b (Z01 (Z1F (Z01 (qp Z0w) (Z01 (QE.flat (Z00 2)) (Z01 (QE.flat (Z00 4)) Z07)))) (Z01 (Z1F (Z01 (qp Z0w) (Z01 (QE.flat (Z00 5)) (Z01 (QE.flat (Z00 2)) Z07)))) Z07))))) Z0r)
      (Z05 (Z1o (Z1V (Z1Q hr) (Z00 6) (qp Z08)) (Z06 (Z0q (Z1b (Z01 (Z1F (Z01 (qp Z0w) (Z01 (qp Z08) Z07))) (Z01 (Z1F (Z01 (qp Z0w) (Z01 (QE.flat (Z00 5)) (Z01 (QE.flat (Z00 2)) Z07)))) Z07))))) Z0r)
      (Z06 (Z0q (Z1b (Z01 (Z1F (Z01 (qp Z0w) (Z01 (qp Z08) Z07))) (Z01 (Z1F (Z01 (qp Z0w) (Z01 (QE.flat (Z00 2)) (Z01 (QE.flat (Z00 5)) Z07)))) (Z01 (Z1F (Z01 (qp Z0w) (Z01 (qp (Z0m Z1T (Z00 5) (qp Z08))) (Z01 (QE.flat (Z00 5)) Z07)))) Z07)))))))))))))
theorem sc_l_idle:Z0p ["_law_found","_law_fault"] ["_law_found"] (Z04 Z2E):=⟨rfl,rfl,rfl,by decide +kernel,rfl,by decide +kernel,by decide +kernel⟩
theorem ZaO   (F:FunD K "_law_idle" "_law_idle" Z2E fA fd) (c_l_faults:Z0c P w K mg base "_law_faults" [] 3 3 (Z2m C)) (c_l_telling:Z0c P w K mg base "_law_telling" [] 4 4 (Z1v C)) (hC:Cls K C) (hA_ins:NoAttr K C "ins") (hA_outs:NoAttr K C "outs") (hA_rows:NoAttr K C "rows") :
    FnOk P w K mg base CX0 5 fA fd ["_law_found"] (spD K 1 (Z3X C)):=by
  have nd:=sc_l_idle.nd
  refine F.ok sc_l_idle rfl rfl fun cdv A outer s H E hr=>?_
  exact (Z05 (Z1l rfl PassesOwn.never (Z1i (m1:=true) (rs:=[]) (Z0i c_l_faults (hr.mono (by decide)) (.cons (.cons (.cons NArgs.nil))) rfl (Z01 (QE.more (Z0x hC hA_ins (Z00 0)) (by simp)) (Z01 (QE.more (Z0x hC hA_rows (Z00 0)) (by simp)) (Z01 (QE.more (Z0x hC hA_outs (Z00 0)) (by simp)) (Z07 (m:=false) (rs:=[0]))))))) (Z1f (i:=1) nd rfl (Or.inl rfl)) (Z06 (Z1o (Z1V (Z1Q hr) (Z0i c_l_telling (hr.mono (by decide)) (.cons (.cons (.cons (.cons NArgs.nil)))) rfl (Z01 (QE.more (Z0x hC hA_ins (Z00 0)) (by simp)) (Z01 (QE.more (Z0x hC hA_rows (Z00 0)) (by simp)) (Z01 (QE.more (Z0x hC hA_outs (Z00 0)) (by simp)) (Z01 (QE.more (Z00 1) (by simp)) (Z07 (m:=false) (rs:=[0,1]))))))) (qp Z08)) (Z06 (Z0q (qp Z89))) Z0r)))
      (Z06 (Z0q (qp Z89))))
theorem sc_l_same:Z0p ["_law_found","_law_due","_law_told_tables"] ["_law_found","_law_due"] (Z04 Z2C):=⟨rfl,rfl,rfl,by decide +kernel,rfl,by decide +kernel,by decide +kernel⟩
theorem ZaM   (F:FunD K "_law_same" "_law_same" Z2C fA fd) (c_l_tables:Z0c P w K mg base "_law_tables" [] 3 3 (Z0U C)) (hC:Cls K C) (hA_ins:NoAttr K C "ins") (hA_outs:NoAttr K C "outs") (hA_rows:NoAttr K C "rows") :
    FnOk P w K mg base CX0 4 fA fd ["_law_found","_law_due"] (spD K 2 (Z3W C)):=by
  have nd:=sc_l_same.nd
  refine F.ok sc_l_same rfl rfl fun cdv A outer s H E hr=>?_
  exact (Z05 (Z0h (i:=2) nd rfl (Or.inr rfl) (Z0i c_l_tables (hr.mono (by decide)) (.cons (.cons (.cons NArgs.nil))) rfl (Z01 (QE.more (Z0x hC hA_ins (Z00 0)) (by simp)) (Z01 (QE.more (Z0x hC hA_rows (Z00 0)) (by simp)) (Z01 (QE.weak (qp Z6d)) (Z07 (m:=false) (rs:=[0])))))))
      (Z06 (Z0q (qp (ZeQ (Z1Q hr) (Z2Z (fr:=[2]) rfl (by rfl) (Z1i (Z0x hC hA_outs (Z00 0))) (show List.Nodup (["_law_wire","_law_told_tables"]:List Str) from by decide +kernel) (by rfl) (fun _ _ _ _ _ _=>Z2u) (fun _ _ _ _ _ _=>(QE.flat (Z0D (Z00 1) (Z00 0))))) (Z00 1))))))
theorem sc_law:Z0p ["_law_script","_law_cells","_law_first","_law_ins","_law_rows","_law_outs","_law_wide","_law_ends","_law_k","_law_wire","_law_good","_law_due","_law_one","_law_other","_law_again","_law_found"] ["_law_script"] (Z04 Z57):=⟨rfl,rfl,rfl,by decide +kernel,rfl,by decide +kernel,by decide +kernel⟩
theorem Zf6   (F:FunD K "law" "law" Z57 fA fd) (c_l_behind:Z0c P w K mg base "_law_behind" [] 1 4 (Z26 C)) (c_l_circuit:Z0c P w K mg base "_law_circuit" [] 2 4 (Z22 C)) (c_l_idle:Z0c P w K mg base "_law_idle" [] 5 1 (Z3X C)) (c_l_mixed:Z0c P w K mg base "_law_mixed" [] 1 2 (Z1c C)) (c_l_same:Z0c P w K mg base "_law_same" [] 4 2 (Z3W C)) (c_l_tables:Z0c P w K mg base "_law_tables" [] 3 3 (Z0U C)) (c_lean:Z0c P w K mg base "lean" [] 7 1 (Z50 C)) (mk_Circuit:ZbJ P w K mg base "Circuit" C 1 3 (Z1d C)) (z_enumerate:mg "enumerate" = none) (z_isinstance:mg "isinstance" = none) (z_len:mg "len" = none) (z_list:mg "list" = none) (z_sum:mg "sum" = none) (hC:Cls K C) (hA_rows:NoAttr K C "rows") (is_Circuit:ClsI K C) (mc_Circuit:mg "Circuit" = some (.ref C)) :
    FnOk P w K mg base CX0 8 fA fd ["_law_script"] (spD K 1 (Ze6 C)):=by
  have nd:=sc_law.nd
  refine F.ok sc_law rfl rfl fun cdv A outer s H E hr=>?_
  exact (Z05 (Z0h (i:=1) nd rfl (Or.inl rfl) (qp (Z3T (Z00 0) Z4M (Z4L (qp Z08)))))
      (Z05 (Z0h (i:=2) nd rfl (Or.inl rfl) (qp Z08))
      (Z05 (Z1o (ZbW (qp (Z1W (by rfl) z_len (Z00 1))) (qp Z08)) (Z06 (Z0h (i:=2) nd rfl (Or.inl rfl) (qp (Zas rfl (by rfl) z_sum (qp (Z3T (Z00 0) Z4M (Z4L (qp Z08)))))))) Z0r)
      (Z05 (Z0h (i:=3) nd rfl (Or.inl rfl) (qp (Z0l Z1Y (Z00 2) (qp Z08))))
      (Z05 (Zdv (m:=true) (rs:=[]) (Z0i c_l_circuit (hr.mono (by decide)) (.cons (.cons (.cons (.cons NArgs.nil)))) rfl (Z01 (QE.more (Z00 1) (by simp)) (Z01 (QE.more (Z00 3) (by simp)) (Z01 (QE.weak (qp Z08)) (Z01 (QE.weak (qp (Z0l Z1Y (qp (Z0l Z2c (Z00 2) (qp Z08))) (qp Z08)))) (Z07 (m:=false) (rs:=[1,3]))))))) (Z5s (is:=[4,5]) rfl (Z1C (Z1G (i:=4) nd rfl (Or.inl rfl)) (Z1C (Z1G (i:=5) nd rfl (Or.inl rfl)) Z4b)) rfl))
      (Z05 (Z0h (i:=6) nd rfl (Or.inl rfl) (qp (Z6D (by rfl) z_list (Z00 4))))
      (Z05 (Z0h (i:=7) nd rfl (Or.inl rfl) (Z1b Z07))
      (Z05 (Z1l rfl PassesOwn.never (Z5r (by rfl) z_enumerate (Z01 (Z00 5) Z07)) (Z5s (is:=[8,9]) rfl (Z1C (Z1G (i:=8) nd rfl (Or.inl rfl)) (Z1C (Z1G (i:=9) nd rfl (Or.inl rfl)) Z4b)) rfl) (Z05 (Z0h (i:=6) nd rfl (Or.inl rfl) (qp (ZdB (m2:=true) (rs2:=[]) (Z00 6) (Z0i c_l_behind (hr.mono (by decide)) (.cons (.cons (.cons (.cons NArgs.nil)))) rfl (Z01 (QE.more (Z00 6) (by simp)) (Z01 (QE.more (Z00 3) (by simp)) (Z01 (QE.more (Z00 9) (by simp)) (Z01 (QE.weak (Z0i c_l_mixed (hr.mono (by decide)) (.cons (.cons NArgs.nil)) rfl (Z01 (QE.more (Z00 2) (by simp)) (Z01 (QE.more (Z00 8) (by simp)) (Z07 (m:=false) (rs:=[2,8])))))) (Z07 (m:=false) (rs:=[6,3,9]))))))))))
      (Z06 (Z2y 7 (qp (Z0m Z1S (qp (Z0m Z1T (Z00 3) (qp (Z1W (by rfl) z_len (Z00 6))))) (qp Z08)))))))
      (Z05 (Z0h (i:=10) nd rfl (Or.inr rfl) (Z0i c_l_tables (hr.mono (by decide)) (.cons (.cons (.cons NArgs.nil))) rfl (Z01 (QE.more (Z00 3) (by simp)) (Z01 (QE.more (Z00 4) (by simp)) (Z01 (QE.weak (qp Z6d)) (Z07 (m:=false) (rs:=[3,4])))))))
      (Z05 (Z4J (i:=11) (fr:=[10]) rfl nd rfl (Or.inl rfl) (by rfl) (Z1i (Z00 5)) (show List.Nodup (["_law_wire","_law_good"]:List Str) from by decide +kernel) (by rfl) (fun _ _ _ _ _ _=>Z2u) (fun _ _ _ _ _ _=>(QE.flat (Z0D (Z00 1) (Z00 0)))))
      (Z05 (Z0h (i:=12) nd rfl (Or.inl rfl) (Z0i c_lean (hr.mono (by decide)) (.cons NArgs.nil) rfl (Z01 (QE.weak (ZbZ mk_Circuit (hr.mono (by decide)) (.cons (.cons (.cons NArgs.nil))) (Z01 (QE.more (Z00 3) (by simp)) (Z01 (QE.more (Z00 4) (by simp)) (Z01 (QE.more (Z00 5) (by simp)) (Z07 (m:=false) (rs:=[3,4,5]))))))) (Z07 (m:=false) (rs:=[])))))
      (Z05 (Z0h (i:=13) nd rfl (Or.inl rfl) (Z0i c_lean (hr.mono (by decide)) (.cons NArgs.nil) rfl (Z01 (QE.weak (ZbZ mk_Circuit (hr.mono (by decide)) (.cons (.cons (.cons NArgs.nil))) (Z01 (QE.more (Z00 3) (by simp)) (Z01 (QE.more (Z00 6) (by simp)) (Z01 (QE.more (Z00 7) (by simp)) (Z07 (m:=false) (rs:=[3,6,7]))))))) (Z07 (m:=false) (rs:=[])))))
      (Z05 (Z0h (i:=14) nd rfl (Or.inl rfl) (Z0i c_lean (hr.mono (by decide)) (.cons NArgs.nil) rfl (Z01 (QE.more (Z00 13) (by simp)) (Z07 (m:=false) (rs:=[13])))))
      (Z05 (Z1o (QW.qt (Zam (ZbW (qp (Z1W (by rfl) z_len (Z0x hC hA_rows (Z00 12)))) (qp (Z1W (by rfl) z_len (Z00 4)))) (Zam (ZbW (qp (Z1W (by rfl) z_len (Z0x hC hA_rows (Z00 13)))) (qp (Z1W (by rfl) z_len (Z00 6)))) (Zal (ZbW (qp (Z1W (by rfl) z_len (Z0x hC hA_rows (Z00 14)))) (qp (Z1W (by rfl) z_len (Z0x hC hA_rows (Z00 13))))))))) (Z06 (Z0q (qp Z89))) Z0r)
      (Z05 (Z1l rfl PassesOwn.never (Z1i (Z1b (Z01 (QE.more (Z00 12) (by simp)) (Z01 (QE.more (Z00 13) (by simp)) (Z01 (QE.more (Z00 14) (by simp)) (Z07 (m:=false) (rs:=[12,13,14]))))))) (Z1f (i:=15) nd rfl (Or.inl rfl)) (Z06 (Z1o (QW.qt (Zam (ZcS (Z8M (qp (Z9s is_Circuit (by rfl) z_isinstance (Z00 15) (by rfl) mc_Circuit)))) (Zam (ZcS (Z8M (Z0i c_l_same (hr.mono (by decide)) (.cons (.cons NArgs.nil)) rfl (Z01 (QE.more (Z00 15) (by simp)) (Z01 (QE.more (Z00 11) (by simp)) (Z07 (m:=false) (rs:=[15,11]))))))) (Zal (Z8M (Z0i c_l_idle (hr.mono (by decide)) (.cons NArgs.nil) rfl (Z01 (QE.more (Z00 15) (by simp)) (Z07 (m:=false) (rs:=[15]))))))))) (Z06 (Z0q (qp Z89))) Z0r)))
      (Z06 (Z0q (qp Z89))))))))))))))))))
end
local macro_rules | `(tactic| walk_at "ev") => do
  let ns:=("runF enStart List.map_cons List.map_nil List.length_cons List.length_nil List.cons_append List.nil_append List.append_nil List.replicate Nat.reduceAdd Nat.reduceSub Nat.reduceLeDiff PD.fz PD.fz1 ev_var ev_C ev_Flat ev_B ev_OfB ev_And ev_Or ev_Not ev_Nil ev_Cons ev_Tup ev_Lst ev_BI ev_IsN ev_Eq ev_Ix ev_I2' ev_I0' ev_Call ev_B1 ev_NoP ev_P ev_Sl ev_In ev_CatF ev_InK ev_DGet keyOf ev_seq ev_TT ev_cat ev_rNext ev_rIf ev_rRet ev_rSet ev_rSeq List.getElem?_cons_zero List.getElem?_cons_succ List.set_cons_zero List.set_cons_succ Option.join_some Option.map_some Option.bind_some PD.flat Bool.not_true Bool.not_false if_true if_false eqN_int eqN_str eqN_bl eqN_non eqN_tnon atI_m3 atI_m4 atI_0 atI_1 atI_2 atI_3 decide_true decide_false eq_self and_self Bool.and_true Bool.and_false Bool.true_and Bool.false_and eqN_tup eqL_cons eqL_nil eqL_nilL reduceIte reduceCtorEq Int.reduceEq Int.reduceAdd Int.reduceSub Int.reduceLT Int.reduceLE Int.reduceNeg Nat.reduceEqDiff Nat.reduceBEq Bool.false_eq_true".splitOn " ").toArray.map fun s=>Lean.mkIdent s.toName
  `(tactic| simp only [$[$ns:ident],*, *])
theorem Z6S {C:Addr} {ins:Int} {rows:List Row} {outs:List Int} (hl:rows.length <= 1000):Z1d C [.int ins,.lst (rows.map Row.d),LI outs]=some (circ C ins rows outs):=by
  have e1:Z1E [] (fSeq (fVar 2)) fTT (fB1 Z55 (Z02 (fVar 0) fNil)) [none,some (false,.int ins),some (false,.lst (rows.map Row.d)),some (false,LI outs)]=some (.lst (rows.map Row.d)) :=
    Z1y Row.d Row.d (xs:=rows) rfl hl fun r _=>by cases r <;> rfl
  have e2:Z4F [.lst (outs.map D.int)]=some (.lst (outs.map D.int)):=by simp only [Z4F,Z2Q,if_true]
  unfold Z1d
  simp only [e1]
  simp only [LI,circ]
  walk_at "ev"
theorem on_wire {C:Addr} {v w o:Int} {f:Flt} (h:-(2 ^ 64) < o /\ o < 2 ^ 64 \/ ∀ w b,f=.wire w b -> b=0 \/ b=1):Z1x C [.int v,.int w,.int o,f.d]=some (.int (Z0y v w o f)):=by
  cases f with
  | none=>simp [Z1x,runF,enStart,Z3N,Flt.d,PD.flat,Z0y]
  | wire w' b =>
    by_cases hw:w'=w
    . have hm:IntMulOk o b:=h.elim (fun z=>Z3H z.1 z.2) fun z=>by rcases z w' b rfl with z | z <;> (subst z; exact Z8g (by decide) (by decide))
      simp [Z1x,runF,enStart,Z3N,Flt.d,PD.flat,Z0y,atI_0,atI_1,atI_2,eqN_str,eqN_int,hw,hm]
    . simp [Z1x,runF,enStart,Z3N,Flt.d,PD.flat,Z0y,atI_0,atI_1,atI_2,eqN_str,eqN_int,hw]
  | leg w' l b =>
    simp [Z1x,runF,enStart,Z3N,Flt.d,PD.flat,Z0y,atI_0,atI_1,atI_2,eqN_str,eqN_int,s_lw]
theorem leg_wires {C:Addr} (r:Row):Z0C C [r.d]=some (LI r.ws):=by
  cases r with
  | fix b=>simp [Z0C,runF,enStart,Z3j,atI_0,eqN_str,Row.d,LI,Row.ws]
  | not a=>simp [Z0C,runF,enStart,Z3j,atI_0,eqN_str,Row.d,LI,Row.ws,s_nf,fSl,Z1m,PD.flat,cut1,sIx1,Z4F]
  | bin k a b=>simp [Z0C,runF,enStart,Z3j,atI_0,eqN_str,Row.d,LI,Row.ws,s_kf,fSl,Z1m,PD.flat,cut1,sIx1,Z4F]
theorem Zbt {vs:List Int} (env:En) (he:env=[some (false,LI vs)]) (ws:List Int) (h:∀ a ∈ ws,0 <= a /\ a < vs.length):Z2f fTT (Z0n (fIx (fVar 1) (fVar 0))) env (ws.map D.int)=some ((ws.map (nth vs)).map D.int):=by
  subst he
  rw [Z5U D.int (fun a=>.int (nth vs a)) ws fun a ha=>by simp [LI,Z2S (h a ha).1 (h a ha).2,PD.flat]]
  simp [Function.comp_def]
theorem leg_values {C:Addr} {r:Row} {w o:Int} {vs:List Int} {f:Flt} (hw:∀ a ∈ r.ws,0 <= a /\ a < vs.length) (hl:∀ w' l b,f=.leg w' l b -> w'=w -> 0 <= l /\ l < r.ws.length) (hm:∀ w' l b,f=.leg w' l b -> IntMulOk o b) :
    Z0E C [r.d,.int w,LI vs,.int o,f.d]=some (LI (legs r w vs o f)):=by
  have hlen:r.ws.length <= 1000:=by cases r <;> simp [Row.ws]
  have e1:∀ x:D,Z1E [2] (fSeq (Z0f (Z0C C) [] (Z02 (fVar 0) fNil))) fTT (Z0n (fIx (fVar 1) (fVar 0))) [some (false,r.d),some (false,.int w),some (false,LI vs),some (false,.int o),some (false,x),none]=some (LI (r.ws.map (nth vs))):=by
    intro x
    simp only [Z1E,fSeq,Z0f,Z02,fVar,fNil,List.getElem?_cons_zero,Option.join_some,Option.map_some,Option.bind_some,List.append_nil,leg_wires,LI,List.length_map,hlen,if_true]
    rw [Zbt (vs:=vs) (enIn [2] _) (by simp [enIn,LI]) r.ws hw]
    rfl
  cases f with
  | none=>simp [Z0E,runF,enStart,Z2s,e1,Flt.d,Z4I,legs]
  | wire w' b=>simp [Z0E,runF,enStart,Z2s,e1,Flt.d,Z4I,legs,atI_0,eqN_str,s_wl]
  | leg w' l b =>
    by_cases hww:w'=w
    . subst hww
      obtain ⟨l0,l1⟩:=hl _ l b rfl rfl
      have hmm:=hm _ l b rfl
      simp only [LI] at e1
      have hfl:Z1m (List.map (D.int ∘ nth vs) r.ws)=true:=by have:=Z2Q (r.ws.map (nth vs)); simpa using this
      simp [Z0E,runF,enStart,Z2s,e1,Flt.d,Z4I,legs,atI_0,atI_1,atI_2,atI_3,eqN_str,eqN_int,rPut,hmm,LI,Zd3 l0 (by simpa using l1),hfl,PD.flat,List.map_set]
    . simp [Z0E,runF,enStart,Z2s,e1,Flt.d,Z4I,legs,atI_0,atI_1,atI_2,eqN_str,eqN_int,hww]
theorem gate_value {C:Addr} {r:Row} {ls:List Int} {o:Int} (hl:ls.length=r.ws.length) (hm:∀ b,r=.fix b -> IntMulOk o b):Z0X C [r.d,LI ls,.int o]=some (.int (gate r ls o)):=by
  cases r with
  | fix b =>
    have:=hm b rfl
    simp [Z0X,runF,enStart,Z2V,Row.d,atI_0,atI_1,PD.flat,eqN_str,this,gate]
  | not a =>
    have h0:atI (ls.map D.int) 0=some (.int (nth ls 0)):=Z2S (by decide) (by simp [Row.ws] at hl; omega)
    simp [Z0X,runF,enStart,Z2V,Row.d,atI_0,atI_1,PD.flat,eqN_str,gate,s_nf,LI,h0]
  | bin k a b =>
    have h0:atI (ls.map D.int) 0=some (.int (nth ls 0)):=Z2S (by decide) (by simp [Row.ws] at hl; omega)
    have h1:atI (ls.map D.int) 1=some (.int (nth ls 1)):=Z2S (by decide) (by simp [Row.ws] at hl; omega)
    cases k <;> simp [Z0X,runF,enStart,Z2V,Row.d,atI_0,atI_1,PD.flat,eqN_str,gate,s_kf,s_kn,s_ka,s_ko,LI,h0,h1]
theorem borne {C:Addr} {ins o:Int} {rows:List Row} {outs ss:List Int} {f:Flt} (hs:ss.length + rows.length <= 1000) (hr:RowsOk ss.length rows) (hf:FltOk ss.length rows f) :
    Z4O C [circ C ins rows outs,LI ss,.int o,f.d]=some (LI (Z2g o f (Z0H o f [] ss) rows)):=by
  have ow:∀ v w,Z1x C [.int v,.int w,.int o,f.d]=some (.int (Z0y v w o f)):=fun v w=>on_wire (.inr hf.w)
  refine Z1e ?_
  unfold Zbb
  refine sSet (d:=.lst []) (by walk_at "ev") ?_
  refine Z63 (ds:=ss.map D.int) (by walk_at "ev"; rfl) (fun i env=>∃ s,env=[some (false,circ C ins rows outs),some (false,LI ss),some (false,.int o),some (false,f.d),some (true,LI (Z0H o f [] (ss.take i))),s,none,none,none]) ⟨none,rfl⟩ ?_ ?_
  . rintro i d env hd ⟨s,rfl⟩
    obtain ⟨x,hx,rfl⟩:=Z14 hd
    refine ⟨_,_,rfl,?_,some (false,.int x),rfl⟩
    have hi:i < ss.length:=(List.getElem?_eq_some_iff.mp hx).1
    have hl:(Z0H o f [] (ss.take i)).length <= 1000:=by rw [Z2j]; simp; omega
    rw [Z0v hx,Z3A]
    simp [rApp,FLen,LI,ow,hl,List.map_append]
  rintro env ⟨s1,rfl⟩
  rw [List.length_map,List.take_length]
  refine Z63 (Z0V (Z2e (by rfl))) (fun i env=>∃ s a b c,env=[some (false,circ C ins rows outs),some (false,LI ss),some (false,.int o),some (false,f.d),some (true,LI (Z2g o f (Z0H o f [] ss) (rows.take i))),s,a,b,c]) ⟨s1,none,none,none,rfl⟩ ?_ ?_
  . rintro i d env hd ⟨s,a,b,c,rfl⟩
    obtain ⟨r,hx,rfl⟩:=Z14 hd
    have hi:i < rows.length:=(List.getElem?_eq_some_iff.mp hx).1
    have hvl:(Z2g o f (Z0H o f [] ss) (rows.take i)).length=ss.length + i:=by rw [Z5o,Z2j]; simp; omega
    generalize hvs:Z2g o f (Z0H o f [] ss) (rows.take i)=vs at hvl
    have hrow:=hr i r hx
    have lv:Z0E C [r.d,.int (vs.length:Int),LI vs,.int o,f.d]=some (LI (legs r vs.length vs o f)) :=
      leg_values (fun a ha=>by rw [hvl]; exact hrow.ws a ha) (fun w' l b e hw=>hf.leg w' l b i r e hx (by rw [hw,hvl])) (fun w' l b e=>Z8x (hf.l w' l b e))
    have gv:Z0X C [r.d,LI (legs r vs.length vs o f),.int o]=some (.int (gate r (legs r vs.length vs o f) o)):=gate_value (Z6T _ _ _ _ _) (fun b e=>Z8x (by subst e; exact hrow))
    refine ⟨_,_,rfl,?_,s,some (false,r.d),some (true,.int vs.length),some (true,LI (legs r vs.length vs o f)),rfl⟩
    have hl:vs.length <= 1000:=by omega
    rw [Z0v hx,Z3R,hvs]
    simp only [LI] at lv gv
    simp [rApp,FLen,LI,ow,hl,List.map_append,lv,gv]
  rintro env ⟨s2,a2,b2,c2,rfl⟩
  rw [List.length_map,List.take_length]
  rfl
theorem at_outs {C:Addr} {ins:Int} {rows:List Row} {outs vs:List Int} (ho:outs.length <= 1000) (h:∀ a ∈ outs,0 <= a /\ a < vs.length):Z35 C [circ C ins rows outs,LI vs]=some (LI (outs.map (nth vs))):=by
  refine Z1e ?_
  show rRet _ [some (false,circ C ins rows outs),some (false,LI vs)]=_
  unfold rRet
  rw [Z1y D.int (fun a=>.int (nth vs a)) (xs:=outs) (Z0V (Z3Z (by rfl))) ho (fun a ha=>by simp [enIn,LI,Z2S (h a ha).1 (h a ha).2,PD.flat])]
  simp [LI,Function.comp_def]
theorem Z3Q (n:Nat):(1:Int) * 2 ^ (n:Int).toNat=((2 ^ n:Nat):Int):=by rw [Int.one_mul,Int.toNat_natCast]; simp
theorem Zbi (n:Nat):(1:Int) * 2 ^ ((2 ^ n:Nat):Int).toNat - 1=Z09 (2 ^ n):=by rw [Int.one_mul,Int.toNat_natCast]; rfl
theorem Z8a {n:Nat} (h:n <= 8):(0:Int) <= ((2 ^ n:Nat):Int) /\ ((2 ^ n:Nat):Int) <= 256 :=
  ⟨Int.natCast_nonneg _,Int.ofNat_le.mpr (show 2 ^ n <= 256 from Nat.pow_le_pow_right (show 0 < 2 by decide) h)⟩
theorem full_table {C:Addr} {n:Nat} (h:n <= 8):Z0T C [.int n]=some (.int (Z09 (2 ^ n))):=by
  obtain ⟨pb0,pb1⟩:=Z8a h
  have p1:CShl 1 (n:Int):=Z70 (by omega) (by omega)
  have p2:CShl 1 ((2 ^ n:Nat):Int):=Z70 pb0 (Int.le_trans pb1 (by decide))
  have e1:=Z3Q n
  have e2:=Zbi n
  unfold Z0T Z51
  clear pb0 pb1 h
  walk_at "ev"
theorem Z9d (n:Nat) (b:Nat -> Bool):Builtin.Int.intBits (tab n b) <= n:=by
  rw [PySem.intBits_le_iff]
  unfold tab
  have:=Z2Y n b
  simpa using this
theorem ZbC (n:Nat):Builtin.Int.intBits (Z09 n) <= n:=by rw [<- Z4k]; exact Z9d n _
theorem input_tables {C:Addr} {n:Nat} (h:n <= 8):Z0W C [.int n]=some (LI (inT n)):=by
  refine Z1e ?_
  unfold Z46
  refine sSet (d:=.lst []) (by walk_at "ev") ?_
  refine Z63 (ds:=(List.range n).map fun (k:Nat)=>.int (k:Int)) (Z3o (xs:=[.int (n:Int)]) (by walk_at "ev") (Zds (by omega)))
    (fun i env=>∃ a b,env=[some (false,.int n),some (true,LI (inT i)),a,b]) ⟨none,none,rfl⟩ ?_ ?_
  . rintro i d env hd ⟨a,b,rfl⟩
    obtain ⟨hi,rfl⟩:=Z3C hd
    obtain ⟨pb0,pb1⟩:=Z8a (show i <= 8 by omega)
    have pb2:∀ m:Nat,m=2 ^ i -> (m:Int) + ((2 ^ i:Nat):Int) <= 100000000:=fun m e=>by subst e; exact Int.le_trans (Int.add_le_add pb1 pb1) (by decide)
    have p1:CShl 1 (i:Int):=Z70 (by omega) (by omega)
    have e1:=Z3Q i
    have ft:=full_table (C:=C) (n:=i) (by omega)
    refine ⟨_,_,rfl,?_,some (false,.int i),some (true,.int ((2 ^ i:Nat):Int)),rfl⟩
    refine sSet (d:=.int ((2 ^ i:Nat):Int)) (by clear pb0 pb1 pb2; walk_at "ev") ?_
    refine sSet (Z1y D.int (fun t=>.int (Builtin.bitOr t (t * 2 ^ (2 ^ i)))) (xs:=inT i) (by rfl) (by rw [Z2x]; omega) (fun t ht=>?_)) ?_
    . obtain ⟨j,hj⟩:=List.getElem?_of_mem ht
      have hj2:j < i:=by have:=(List.getElem?_eq_some_iff.mp hj).1; rwa [Z2x] at this
      rw [Z4P i j hj2] at hj
      have p3:CShl t ((2 ^ i:Nat):Int):=by
        rw [<- Option.some.inj hj]
        exact Z8t (Z9d _ _) pb0 (pb2 _ rfl)
      show fI0 _ (fVar 0) _ [some (false,.int t),some (true,.int ((2 ^ i:Nat):Int))]=_
      clear pb0 pb1 pb2 hj
      walk_at "ev"
      rw [Int.toNat_natCast]
    . have p4:CShl (Z09 (2 ^ i)) ((2 ^ i:Nat):Int):=Z8t (ZbC _) pb0 (pb2 _ rfl)
      refine (Z3D (d:=.int (Z09 (2 ^ i) * 2 ^ (2 ^ i))) ?_ rfl (by rw [List.length_map,Z2x]; omega)).trans ?_
      . clear pb0 pb1 pb2
        walk_at "ev"
        rw [Int.toNat_natCast]
      . simp only [inT,LI,List.map_append,List.map_map,List.map_cons,List.map_nil]
        rfl
  . rintro env ⟨a,b,rfl⟩
    rw [List.length_map,List.length_range]
    rfl
theorem Z7c {C:Addr} {ins:Nat} {rows:List Row} {outs:List Int} {f:Flt} (hi:ins <= 8) (hs:ins + rows.length <= 1000) (hr:RowsOk ins rows) (hf:FltOk ins rows f) :
    Z2F C [circ C ins rows outs,f.d]=some (LI (Z03 ins rows f)):=by
  have gl:=Z2x ins
  have b:=borne (C:=C) (ins:=ins) (o:=Z09 (2 ^ ins)) (rows:=rows) (outs:=outs) (ss:=inT ins) (f:=f) (by rw [gl]; exact hs) (by rw [gl]; exact hr) (by rw [gl]; exact hf)
  have it:=input_tables (C:=C) hi
  have ft:=full_table (C:=C) hi
  refine Z1e (Z2b (Z0e (xs:=[circ C ins rows outs,LI (inT ins),.int (Z09 (2 ^ ins)),f.d]) ?_ b))
  refine Z0d rfl (Z0d (Z0e (xs:=[.int ins]) (Z0d (Z3k (by rfl)) rfl) it) (Z0d (Z0e (xs:=[.int ins]) (Z0d (Z3k (by rfl)) rfl) ft) (Z0d rfl rfl)))
theorem Z6I {C:Addr} {ins:Nat} {rows:List Row} {outs:List Int} {f:Flt} (hi:ins <= 8) (hs:ins + rows.length <= 1000) (hr:RowsOk ins rows) (hf:FltOk ins rows f) (hl:outs.length <= 1000) (ho:∀ a ∈ outs,0 <= a /\ a < ((ins + rows.length:Nat):Int)) :
    Z0S C [circ C ins rows outs,f.d]=some (LI (outs.map (nth (Z03 ins rows f)))):=by
  have e1:=Z7c (C:=C) (outs:=outs) hi hs hr hf
  have e2:=at_outs (C:=C) (ins:=ins) (rows:=rows) (outs:=outs) (vs:=Z03 ins rows f) hl (fun a ha=>by rw [Z0Z]; exact ho a ha)
  exact Z1e (Z2b (Z0e (xs:=[circ C ins rows outs,LI (Z03 ins rows f)]) (Z0d rfl (Z0d (Z0e (xs:=[circ C ins rows outs,f.d]) rfl e1) rfl)) e2))
theorem Z77 {A B:List Int}:∀ (outs:List Int),zipD ((outs.map (nth A)).map D.int) ((outs.map (nth B)).map D.int)=outs.map fun a=>.tup [.int (nth A a),.int (nth B a)]
  | []=>rfl
  | a :: outs=>by simp only [List.map_cons,zipD]; rw [Z77 outs]
theorem Z7R {C:Addr} {A B outs:List Int}:Z1w C [LI (outs.map (nth A)),LI (outs.map (nth B))]=some (.int (Z3t A B outs)):=by
  refine Z1e ?_
  unfold Z5O
  refine sSet (d:=.int 0) (by walk_at "ev") ?_
  refine Z63 (ds:=outs.map fun a=>.tup [.int (nth A a),.int (nth B a)]) (Z3o (xs:=[LI (outs.map (nth A)),LI (outs.map (nth B))]) rfl (by simp only [FZip,LI,Z77]))
    (fun i env=>∃ a b,env=[some (false,LI (outs.map (nth A))),some (false,LI (outs.map (nth B))),some (true,.int (Z3t A B (outs.take i))),a,b]) ⟨none,none,rfl⟩ ?_ ?_
  . rintro i d env hd ⟨a,b,rfl⟩
    obtain ⟨x,hx,rfl⟩:=Z14 hd
    refine ⟨_,_,rfl,?_,some (false,.int (nth A x)),some (false,.int (nth B x)),rfl⟩
    rw [Z66 hx]
    rfl
  . rintro env ⟨a,b,rfl⟩
    rw [List.length_map,List.take_length]
    rfl
noncomputable def Za4 (ins:Nat) (rows:List Row) (outs:List Int) (f:Flt):Int:=Z3t (Z03 ins rows .none) (Z03 ins rows f) outs
theorem Z4l {C:Addr} {ins:Nat} {rows:List Row} {outs:List Int} {w:Int} (h1:w < ((ins + rows.length:Nat):Int)):Z0M C [circ C ins rows outs,.int w]=some (LI (Z0g ins rows w)):=by
  have fi:=Z3k (C:=C) (ins:=ins) (rows:=rows) (outs:=outs) (fa:=fVar 0) (env:=[some (false,circ C ins rows outs),some (false,.int w)]) rfl
  have fr:=Z2e (C:=C) (ins:=ins) (rows:=rows) (outs:=outs) (fa:=fVar 0) (env:=[some (false,circ C ins rows outs),some (false,.int w)]) rfl
  refine Z1e ?_
  show Z3M C [some (false,circ C ins rows outs),some (false,.int w)]=_
  unfold Z3M
  by_cases h:w < (ins:Int)
  . rw [Z2d h]
    refine sIfT ?_ (Z7i rfl)
    clear fr
    walk_at "ev"
  . have hk:(w - (ins:Int)).toNat < rows.length:=by omega
    have hr1:=List.getElem?_eq_getElem hk
    generalize rows[(w - (ins:Int)).toNat]=r at hr1
    have ea:=Z41 hr1 (a:=w - (ins:Int)) (by omega)
    rw [Z0Y (by omega) hr1]
    refine sNo (by clear fr ea; walk_at "ev") ?_
    refine Z2b (Z0e (xs:=[r.d]) (Z0d ?_ rfl) (leg_wires r))
    walk_at "ev"
theorem Z3r {C:Addr} {ins:Nat} {rows:List Row} {outs:List Int} {w:Int} (h1:w < ((ins + rows.length:Nat):Int)):Z0k C [circ C ins rows outs,.int w]=some (LI (Z1n ins rows w)):=by
  have fi:=Z3k (C:=C) (ins:=ins) (rows:=rows) (outs:=outs) (fa:=fVar 0) (env:=[some (false,circ C ins rows outs),some (false,.int w)]) rfl
  have fr:=Z2e (C:=C) (ins:=ins) (rows:=rows) (outs:=outs) (fa:=fVar 0) (env:=[some (false,circ C ins rows outs),some (false,.int w)]) rfl
  refine Z1e ?_
  show Z2P C [some (false,circ C ins rows outs),some (false,.int w)]=_
  unfold Z2P Z1n
  by_cases h:w < (ins:Int)
  . have h':¬ (ins:Int) <= w:=by omega
    rw [if_pos h]
    refine sNo (by clear fr; walk_at "ev") rfl
  . have h':(ins:Int) <= w:=by omega
    have hk:(w - (ins:Int)).toNat < rows.length:=by omega
    have hr1:=List.getElem?_eq_getElem hk
    generalize rows[(w - (ins:Int)).toNat]=r at hr1
    have ea:=Z41 hr1 (a:=w - (ins:Int)) (by omega)
    rw [if_neg h,hr1]
    cases r with
    | fix b =>
      have e1:=s_ff
      simp only [Row.d] at ea
      refine sIfT (by walk_at "ev") (Z7i ?_)
      simp only [LI,List.map_cons,List.map_nil]
      walk_at "ev"
    | not a =>
      have e1:=s_nf
      simp only [Row.d] at ea
      exact sNo (by walk_at "ev") rfl
    | bin k a b =>
      have e1:=s_kf k
      simp only [Row.d] at ea
      exact sNo (by walk_at "ev") rfl
theorem rng3 {a b:Int} {n:Nat} (h:a - b=(n:Int)) (h1:-1000 <= b) (h2:a <= 1000):ZbK [.int a,.int b,.int (-1)]=some ((List.range n).map fun (k:Nat)=>.int (a - (k:Int))):=by
  simp only [ZbK]
  rw [if_pos (by refine ⟨⟨by omega,by omega,by omega,by omega⟩,trivial⟩),h,Int.toNat_natCast]
theorem Z5z {C:Addr} {ins:Nat} {rows:List Row} {outs:List Int} (hs:ins + rows.length < 64) (hl:outs.length <= 100) (hr:RowsOk ins rows) (ho:∀ a ∈ outs,0 <= a /\ a < ((ins + rows.length:Nat):Int)) :
    Z2p C [circ C ins rows outs]=some (LI (Z0G ins rows outs)):=by
  refine Z1e ?_
  unfold Z90
  refine sSet (d:=dKT []) rfl ?_
  refine Z63 (Z0V (Z3Z (by rfl))) (fun i env=>∃ a,env=[some (false,circ C ins rows outs),some (true,dKT (Z1j [] (outs.take i))),a,none,none]) ⟨none,rfl⟩ ?_ ?_
  . rintro i d env hd ⟨a,rfl⟩
    obtain ⟨x,hx,rfl⟩:=Z14 hd
    refine ⟨_,_,rfl,Z6c (ks:=Z1j [] (outs.take i)) (k:=x) rfl rfl rfl ?_,some (false,.int x),by rw [Z3l hx]; rfl⟩
    have:=Z38 (xs:=outs.take i) (ks:=[])
    rw [List.length_take,List.length_nil] at this
    omega
  rintro env ⟨a,rfl⟩
  rw [List.length_map,List.take_length]
  have el:FLen [.lst (rows.map Row.d)]=some (.int (rows.length:Int)):=by simp only [FLen,List.length_map]
  refine Z63 (ds:=(List.range rows.length).map fun (k:Nat)=>.int (((ins + rows.length:Nat):Int) - 1 - (k:Int))) (Z3o (xs:=[.int (((ins + rows.length:Nat):Int) - 1),.int ((ins:Int) - 1),.int (-1)]) ?_ (rng3 (by omega) (by omega) (by omega)))
    (fun i env=>∃ a b c,env=[some (false,circ C ins rows outs),some (true,dKT (Z2L ins rows outs i)),a,b,c]) ⟨a,none,none,rfl⟩ ?_ ?_
  . have fi:=Z3k (C:=C) (ins:=ins) (rows:=rows) (outs:=outs) (fa:=fVar 0) (env:=[some (false,circ C ins rows outs),some (true,dKT (Z1j [] outs)),a,none,none]) rfl
    have fr:=Z2e (C:=C) (ins:=ins) (rows:=rows) (outs:=outs) (fa:=fVar 0) (env:=[some (false,circ C ins rows outs),some (true,dKT (Z1j [] outs)),a,none,none]) rfl
    rw [show ((ins + rows.length:Nat):Int)=(ins:Int) + (rows.length:Int) by omega]
    clear hr ho hs hl
    walk_at "ev"
  . rintro i d env hd ⟨a,b,c,rfl⟩
    obtain ⟨hi,rfl⟩:=Z3C hd
    have hnl:=Z7B hr ho i
    by_cases hw:(((ins + rows.length:Nat):Int) - 1 - (i:Int)) ∈ Z2L ins rows outs i
    . generalize hW:((ins + rows.length:Nat):Int) - 1 - (i:Int)=W at *
      have so:=Z4l (C:=C) (ins:=ins) (rows:=rows) (outs:=outs) (w:=W) (by omega)
      have hll:=Z36 (ins:=ins) (rows:=rows) (w:=W)
      obtain ⟨env',h1,⟨z,rfl⟩⟩:=Zaj (rs:=[]) (src:=fSeq (Z0f (Z0M C) [] (Z02 (fVar 0) (Z02 (fVar 3) fNil)))) (t:=gtN 4) (g:=Z49 1 (fVar 4) (fC (.bl true))) (env:=[some (false,circ C ins rows outs),some (true,dKT (Z2L ins rows outs i)),a,some (false,.int W),c]) (ds:=(Z0g ins rows W).map D.int)
        (Z0V (Z0e (xs:=[circ C ins rows outs,.int W]) rfl so))
        (fun j env=>∃ z,env=[some (false,circ C ins rows outs),some (true,dKT (Z1j (Z2L ins rows outs i) ((Z0g ins rows W).take j))),a,some (false,.int W),z]) ⟨c,rfl⟩ (by
          rintro j d env hd ⟨z,rfl⟩
          obtain ⟨x,hx,rfl⟩:=Z14 hd
          refine ⟨_,_,rfl,Z6c (ks:=Z1j (Z2L ins rows outs i) ((Z0g ins rows W).take j)) (k:=x) rfl rfl rfl ?_,some (false,.int x),by rw [Z3l hx]; rfl⟩
          have:=Z38 (xs:=(Z0g ins rows W).take j) (ks:=Z2L ins rows outs i)
          rw [List.length_take] at this
          omega)
      rw [List.length_map,List.take_length] at h1
      refine ⟨_,_,rfl,rIfT ?_ h1,a,some (false,.int W),z,?_⟩
      . show fInK (fVar 3) (fVar 1) [some (false,circ C ins rows outs),some (true,dKT (Z2L ins rows outs i)),a,some (false,.int W),c]=some true
        simp only [ev_InK,ev_var,List.getElem?_cons_zero,List.getElem?_cons_succ,Option.join_some,Option.map_some,dKT,keyOf,Z8V,hw,decide_true]
      . simp only [Z2L]
        rw [hW,if_pos hw]
    . generalize hW:((ins + rows.length:Nat):Int) - 1 - (i:Int)=W at *
      refine ⟨_,_,rfl,rIfF ?_ rfl,a,some (false,.int W),c,?_⟩
      . show fInK (fVar 3) (fVar 1) [some (false,circ C ins rows outs),some (true,dKT (Z2L ins rows outs i)),a,some (false,.int W),c]=some false
        simp only [ev_InK,ev_var,List.getElem?_cons_zero,List.getElem?_cons_succ,Option.join_some,Option.map_some,dKT,keyOf,Z8V,hw,decide_false]
      . simp only [Z2L]
        rw [hW,if_neg hw]
        rfl
  rintro env ⟨a,b,c,rfl⟩
  rw [List.length_map,List.length_range]
  have hnl:=Z7B hr ho rows.length
  refine Z2b (Z2i (xs:=[dKT (Z2L ins rows outs rows.length)]) rfl ?_)
  unfold Z9h dKT
  simp only [Z9J]
  rw [if_pos (by omega)]
  rfl
theorem ZbG {ins:Nat} {rows:List Row} {C:Addr} {outs:List Int} {w:Int} {base:List D} (hb:base.length <= 900) (a3 a4 a5:Slot) (so:Z0k C [circ C ins rows outs,.int w]=some (LI (Z1n ins rows w))) :
    ∃ z,rFor [] (fSeq (Z0f (Z0k C) [] (Z02 (fVar 0) (Z02 (fVar 2) fNil)))) (gtN 3) (rApp 1 (fTup (Z02 (fC (.str "wire")) (Z02 (Z0n (fVar 2)) (Z02 (Z0n (fVar 3)) fNil)))))
      [some (false,circ C ins rows outs),some (true,.lst base),some (false,.int w),a3,a4,a5]=.next [some (false,circ C ins rows outs),some (true,.lst (base ++ ((Z1n ins rows w).map fun b=>Flt.wire w b).map Flt.d)),some (false,.int w),z,a4,a5]:=by
  have hbl:=Z2n (ins:=ins) (rows:=rows) (w:=w)
  obtain ⟨env',h1,⟨z,rfl⟩⟩:=Zaj (rs:=[]) (src:=fSeq (Z0f (Z0k C) [] (Z02 (fVar 0) (Z02 (fVar 2) fNil)))) (t:=gtN 3) (g:=rApp 1 (fTup (Z02 (fC (.str "wire")) (Z02 (Z0n (fVar 2)) (Z02 (Z0n (fVar 3)) fNil)))))
    (env:=[some (false,circ C ins rows outs),some (true,.lst base),some (false,.int w),a3,a4,a5]) (ds:=(Z1n ins rows w).map D.int) (Z0V (Z0e (xs:=[circ C ins rows outs,.int w]) rfl so))
    (fun j env=>∃ z,env=[some (false,circ C ins rows outs),some (true,.lst (base ++ (((Z1n ins rows w).take j).map fun b=>Flt.wire w b).map Flt.d)),some (false,.int w),z,a4,a5]) ⟨a3,by simp [PD.fz]⟩ (by
      rintro j d env hd ⟨z,rfl⟩
      obtain ⟨x,hx,rfl⟩:=Z14 hd
      refine ⟨_,_,rfl,Z3D (d:=(Flt.wire w x).d) rfl rfl ?_,some (false,.int x),?_⟩
      . rw [List.length_append,List.length_map,List.length_map,List.length_take]; omega
      . rw [Z0v hx]; simp only [List.map_append,List.map_cons,List.map_nil,<- List.append_assoc]; rfl)
  rw [List.length_map,List.take_length] at h1
  exact ⟨z,h1⟩
theorem ZcM {ins:Nat} {rows:List Row} {C:Addr} {outs:List Int} {w:Int} {base:List D} (hb:base.length <= 900) (a3 a4 a5:Slot) (sl:Z0M C [circ C ins rows outs,.int w]=some (LI (Z0g ins rows w))) (so:∀ a ∈ Z0g ins rows w,Z0k C [circ C ins rows outs,.int a]=some (LI (Z1n ins rows a))) :
    ∃ x y z,rFor [] (sB1 Z4i (Z02 (Z0f (Z0M C) [] (Z02 (fVar 0) (Z02 (fVar 2) fNil))) fNil)) (gtT [4,5]) (rFor [] (fSeq (Z0f (Z0k C) [] (Z02 (fVar 0) (Z02 (fVar 5) fNil)))) (gtN 3) (rApp 1 (fTup (Z02 (fC (.str "leg")) (Z02 (Z0n (fVar 2)) (Z02 (Z0n (fVar 4)) (Z02 (Z0n (fVar 3)) fNil)))))))
      [some (false,circ C ins rows outs),some (true,.lst base),some (false,.int w),a3,a4,a5]=.next [some (false,circ C ins rows outs),some (true,.lst (base ++ (Z0F ins rows w 0 (Z0g ins rows w)).map Flt.d)),some (false,.int w),x,y,z]:=by
  have hll:=Z36 (ins:=ins) (rows:=rows) (w:=w)
  obtain ⟨env',h1,⟨x,y,z,rfl⟩⟩:=Zaj (rs:=[]) (src:=sB1 Z4i (Z02 (Z0f (Z0M C) [] (Z02 (fVar 0) (Z02 (fVar 2) fNil))) fNil)) (t:=gtT [4,5]) (g:=rFor [] (fSeq (Z0f (Z0k C) [] (Z02 (fVar 0) (Z02 (fVar 5) fNil)))) (gtN 3) (rApp 1 (fTup (Z02 (fC (.str "leg")) (Z02 (Z0n (fVar 2)) (Z02 (Z0n (fVar 4)) (Z02 (Z0n (fVar 3)) fNil)))))))
    (env:=[some (false,circ C ins rows outs),some (true,.lst base),some (false,.int w),a3,a4,a5]) (ds:=((Z0g ins rows w).map D.int).mapIdx fun i d=>.tup [.int i,d]) (Z3o (xs:=[LI (Z0g ins rows w)]) (Z0d (Z0e (xs:=[circ C ins rows outs,.int w]) rfl sl) rfl) (by simp only [Z4i,LI]))
    (fun j env=>∃ x y z,env=[some (false,circ C ins rows outs),some (true,.lst (base ++ (Z0F ins rows w 0 ((Z0g ins rows w).take j)).map Flt.d)),some (false,.int w),x,y,z]) ⟨a3,a4,a5,by simp [PD.fz,Z0F]⟩ (by
      rintro j d env hd ⟨x,y,z,rfl⟩
      obtain ⟨e,he,rfl⟩:=Z34 hd
      obtain ⟨a,ha,rfl⟩:=Z14 he
      have sa:=so a (List.mem_of_getElem? ha)
      have hbl:=Z2n (ins:=ins) (rows:=rows) (w:=a)
      have hfl:=Z2H (ins:=ins) (rows:=rows) (w:=w) ((Z0g ins rows w).take j) 0
      rw [List.length_take] at hfl
      generalize hB:base ++ (Z0F ins rows w 0 ((Z0g ins rows w).take j)).map Flt.d=B at *
      have hBl:B.length <= 950:=by rw [<- hB,List.length_append,List.length_map]; omega
      obtain ⟨env',h1,⟨z',rfl⟩⟩:=Zaj (rs:=[]) (src:=fSeq (Z0f (Z0k C) [] (Z02 (fVar 0) (Z02 (fVar 5) fNil)))) (t:=gtN 3) (g:=rApp 1 (fTup (Z02 (fC (.str "leg")) (Z02 (Z0n (fVar 2)) (Z02 (Z0n (fVar 4)) (Z02 (Z0n (fVar 3)) fNil))))))
        (env:=[some (false,circ C ins rows outs),some (true,.lst B),some (false,.int w),x,some (false,.int j),some (false,.int a)]) (ds:=(Z1n ins rows a).map D.int) (Z0V (Z0e (xs:=[circ C ins rows outs,.int a]) rfl sa))
        (fun l env=>∃ z',env=[some (false,circ C ins rows outs),some (true,.lst (B ++ (((Z1n ins rows a).take l).map fun b=>Flt.leg w (j:Int) b).map Flt.d)),some (false,.int w),z',some (false,.int j),some (false,.int a)]) ⟨x,by simp [PD.fz]⟩ (by
          rintro l d env hd ⟨z',rfl⟩
          obtain ⟨b,hb',rfl⟩:=Z14 hd
          refine ⟨_,_,rfl,Z3D (d:=(Flt.leg w (j:Int) b).d) rfl rfl ?_,some (false,.int b),?_⟩
          . rw [List.length_append,List.length_map,List.length_map,List.length_take]; omega
          . rw [Z0v hb']; simp only [List.map_append,List.map_cons,List.map_nil,<- List.append_assoc]; rfl)
      rw [List.length_map,List.take_length] at h1
      refine ⟨_,_,rfl,h1,z',some (false,.int j),some (false,.int a),?_⟩
      rw [Z43 ha,List.map_append,<- List.append_assoc,hB])
  rw [List.length_mapIdx,List.length_map,List.take_length] at h1
  exact ⟨x,y,z,h1⟩
theorem Z74 {C:Addr} {ins:Nat} {rows:List Row} {outs:List Int} (hs:ins + rows.length < 64) (hl:outs.length <= 100) (hr:RowsOk ins rows) (ho:∀ a ∈ outs,0 <= a /\ a < ((ins + rows.length:Nat):Int)) :
    Z27 C [circ C ins rows outs]=some (.lst ((Z23 ins rows outs).map Flt.d)):=by
  have nd:=Z5z (C:=C) hs hl hr ho
  have nb:=Z12 hr ho
  have nl:=Z4u hr ho
  refine Z1e ?_
  unfold Z53 Z23
  generalize Z0G ins rows outs=N at *
  refine sSet (d:=.lst []) rfl ?_
  refine Z63 (ds:=N.map D.int) (Z0V (Z0e (xs:=[circ C ins rows outs]) rfl nd))
    (fun i env=>∃ a b c d,env=[some (false,circ C ins rows outs),some (true,.lst (((N.take i).flatMap (Z0K ins rows)).map Flt.d)),a,b,c,d]) ⟨none,none,none,none,rfl⟩ ?_ ?_
  . rintro i d env hd ⟨a,b,c,e,rfl⟩
    obtain ⟨w,hw,rfl⟩:=Z14 hd
    have hwb:=nb w (List.mem_of_getElem? hw)
    have hil:i < N.length:=(List.getElem?_eq_some_iff.mp hw).1
    have fl:=Z6W (ins:=ins) (rows:=rows) (N.take i)
    rw [List.length_take] at fl
    rw [Z7O hw]
    generalize hB:(N.take i).flatMap (Z0K ins rows)=B at *
    have hBl:(B.map Flt.d).length <= 400:=by rw [List.length_map]; omega
    obtain ⟨z,h1⟩:=ZbG (C:=C) (outs:=outs) (w:=w) (base:=B.map Flt.d) (by omega) b c e (Z3r hwb.2)
    have hbl:=Z2n (ins:=ins) (rows:=rows) (w:=w)
    obtain ⟨x',y',z',h2⟩:=ZcM (C:=C) (outs:=outs) (w:=w) (base:=B.map Flt.d ++ ((Z1n ins rows w).map fun b=>Flt.wire w b).map Flt.d) (by rw [List.length_append,List.length_map,List.length_map,List.length_map]; rw [List.length_map] at hBl; omega) z c e (Z4l hwb.2)
      (fun a ha=>Z3r (by have:=Z1K hr ha; omega))
    refine ⟨_,_,rfl,seqN h1 h2,some (false,.int w),x',y',z',?_⟩
    unfold Z0K
    simp only [List.map_append,List.append_assoc]
  . rintro env ⟨a,b,c,e,rfl⟩
    rw [List.length_map,List.take_length]
    rfl
theorem Zd9 {p:Int -> Int -> Bool} {fa fb:En -> Option D} {env:En} {x y:Int} (h:fa env=some (.int x)) (k:fb env=some (.int y)):fBI p fa fb env=some (p x y):=by rw [ev_BI,h,k]
theorem Zd8 {g:Int -> Int -> D} {fa fb:En -> Option D} {env:En} {x y:Int} (h:fa env=some (.int x)) (k:fb env=some (.int y)):fI0 g fa fb env=some (g x y):=by rw [ev_I0',h,k]
theorem Zfm {fa fb:En -> Option D} {env:En} {ds:List D} {i:Int} (h:fa env=some (.lst ds)) (k:fb env=some (.int i)):fIx fa fb env=atI ds i:=by rw [ev_Ix,h,k]
theorem Z97 {fa:En -> Option D} {env:En} {d:D} (h:fa env=some d) (k:PD.flat d=true):Z0n fa env=some d:=by rw [ev_Flat,h]; simp only [k,if_true]
theorem Zer (r:Row):r.ws.length <= 2:=by cases r <;> simp [Row.ws]
theorem Z5W {s:Str} {fa fb:En -> Option D} {env:En} {ws:List Int} (e1:fa env=some (.lst [.str s])) (e2:fb env=some (LI ws)) (hl:ws.length <= 2):fB1 Z55 (Z02 (fCat fa fb) fNil) env=some (.tup (.str s :: ws.map D.int)):=by
  have e3:fCat fa fb env=some (.lst (.str s :: ws.map D.int)):=by
    rw [ev_cat,e1,e2]
    simp only [LI,List.length_cons,List.length_nil,List.length_map]
    rw [if_pos (by omega)]; rfl
  refine Z2i (xs:=[.lst (.str s :: ws.map D.int)]) (Z0d e3 rfl) ?_
  have e4:Z1m (D.str s :: ws.map D.int)=true:=by
    have:=Z2Q ws
    simp only [Z1m,PD.flat,Bool.true_and,this]
  simp only [Z55,e4,if_true]
theorem Zcj {C:Addr} {r:Row} {kv:List (Int × Int)} (h:∀ a ∈ r.ws,a ∈ keys kv):Z4c C [r.d,DI kv]=some (r.mv (lk kv)).d:=by
  have ec:Z1E [1] (fSeq (Z0f (Z0C C) [] (Z02 (fVar 0) fNil))) fTT (Z4f (fVar 1) (fVar 0)) [some (false,r.d),some (false,DI kv)]=some (LI (r.ws.map (lk kv))):=by
    rw [Z1y D.int (fun a=>.int (lk kv a)) (xs:=r.ws) (Z0V (Z0e (xs:=[r.d]) rfl (leg_wires (C:=C) r))) (by have:=Zer r; omega) (fun a ha=>Z40 (kv:=kv) rfl rfl (h a ha))]
    simp [LI,Function.comp_def]
  refine Z1e ?_
  show Z8p C [some (false,r.d),some (false,DI kv)]=_
  unfold Z8p
  cases r with
  | fix b =>
    refine sIfT ?_ (Z7i rfl)
    clear ec h
    have e1:=s_ff
    simp only [Row.d]
    walk_at "ev"
  | not a =>
    refine sNo ?_ ?_
    . clear ec h
      have e1:=s_nf
      simp only [Row.d]
      walk_at "ev"
    . exact Z2b (Z5W (ws:=[lk kv a]) rfl ec (by simp))
  | bin k a b =>
    refine sNo ?_ ?_
    . clear ec h
      have e1:=s_kf k
      simp only [Row.d]
      walk_at "ev"
    . exact Z2b (Z5W (ws:=[lk kv a,lk kv b]) rfl ec (by simp))
theorem Z6G {C:Addr} {a o x:Int} {kv:List (Int × Int)} (h:x ∈ keys kv):Z1I C [.str "not",LI [x],.int o,DI kv]=some (Z2T (lk kv) o [x] (.not a)).d:=by
  have ec:Z1E [3] (fSeq (fVar 1)) fTT (Z4f (fVar 1) (fVar 0)) [some (false,.str "not"),some (false,LI [x]),some (false,.int o),some (false,DI kv)]=some (LI [lk kv x]):=by
    rw [Z1y D.int (fun a=>.int (lk kv a)) (xs:=[x]) rfl (by simp) (fun a ha=>Z40 (kv:=kv) rfl rfl (by rw [show a=x by simpa using ha]; exact h))]
    rfl
  refine Z1e ?_
  show Z2O C [some (false,.str "not"),some (false,LI [x]),some (false,.int o),some (false,DI kv)]=_
  unfold Z2O
  refine sNo ?_ ?_
  . clear ec h
    have e1:=s_nx
    walk_at "ev"
  . exact Z2b (Z5W (ws:=[lk kv x]) rfl ec (by simp))
theorem Z6H {C:Addr} {k:Kd} {a b o x y:Int} {kv:List (Int × Int)} (h:x ∈ keys kv) (h2:y ∈ keys kv) (hx:k=.xor -> o ∈ [x,y] -> Builtin.bitXor (Builtin.bitXor x y) o ∈ keys kv):Z1I C [.str k.s,LI [x,y],.int o,DI kv]=some (Z2T (lk kv) o [x,y] (.bin k a b)).d:=by
  have ec:Z1E [3] (fSeq (fVar 1)) fTT (Z4f (fVar 1) (fVar 0)) [some (false,.str k.s),some (false,LI [x,y]),some (false,.int o),some (false,DI kv)]=some (LI [lk kv x,lk kv y]):=by
    rw [Z1y D.int (fun a=>.int (lk kv a)) (xs:=[x,y]) rfl (by simp) (fun a ha=>Z40 (kv:=kv) rfl rfl (by
      rcases (show a=x \/ a=y by simpa using ha) with z | z <;> (rw [z]; assumption)))]
    rfl
  refine Z1e ?_
  show Z2O C [some (false,.str k.s),some (false,LI [x,y]),some (false,.int o),some (false,DI kv)]=_
  unfold Z2O
  have e1:=s_kx k
  have e2:=Z8X (k:=o) (ks:=[x,y])
  rw [Z2I]
  by_cases hk:k=.xor
  . by_cases ho:o ∈ [x,y]
    . rw [if_pos ⟨hk,ho⟩]
      have e3:=hx hk ho
      refine sIfT ?_ (Z7i ?_)
      . rw [decide_eq_true hk] at e1
        rw [decide_eq_true ho] at e2
        clear ec h h2 hx e3 hk
        walk_at "ev"
      . have e4:Z4f (fVar 3) (fI0 (fun i j=>.int (Builtin.bitXor i j)) (fI0 (fun i j=>.int (Builtin.bitXor i j)) (fIx (fVar 1) (fC (.int 0))) (fIx (fVar 1) (fC (.int 1)))) (fVar 2)) [some (false,.str k.s),some (false,LI [x,y]),some (false,.int o),some (false,DI kv)]=some (.int (lk kv (Builtin.bitXor (Builtin.bitXor x y) o))):=Z40 (kv:=kv) rfl rfl e3
        rw [ev_Tup,ev_Cons,ev_C,ev_Cons,e4]; rfl
    . rw [if_neg fun z=>ho z.2]
      refine sNo ?_ ?_
      . rw [decide_eq_true hk] at e1
        rw [decide_eq_false ho] at e2
        clear ec h h2 hx hk
        walk_at "ev"
      . exact Z2b (Z5W (ws:=[lk kv x,lk kv y]) rfl ec (by simp))
  . rw [if_neg fun z=>hk z.1]
    refine sNo ?_ ?_
    . rw [decide_eq_false hk] at e1
      clear ec h h2 hx e2
      walk_at "ev"
    . exact Z2b (Z5W (ws:=[lk kv x,lk kv y]) rfl ec (by simp))
noncomputable def Ze8:Row -> Str
  | .fix _ => "fix"
  | .not _ => "not"
  | .bin k _ _=>k.s
theorem Z7n {C:Addr} {r:Row} {o:Int} {ls:List Int} {kv:List (Int × Int)} (hf:∀ b,r ≠ .fix b) (hl:ls.length=r.ws.length) (h:∀ t ∈ ls,t ∈ keys kv) (hx:o ∈ ls -> ∀ x y,ls=[x,y] -> Builtin.bitXor (Builtin.bitXor x y) o ∈ keys kv):Z1I C [.str (Ze8 r),LI ls,.int o,DI kv]=some (Z2T (lk kv) o ls r).d:=by
  cases r with
  | fix b=>exact absurd rfl (hf b)
  | not a =>
    obtain ⟨x,rfl⟩:∃ x,ls=[x]:=List.length_eq_one_iff.mp hl
    exact Z6G (h x (by simp))
  | bin k a b =>
    obtain ⟨x,y,rfl⟩:∃ x y,ls=[x,y]:=ZcP hl
    exact Z6H (h x (by simp)) (h y (by simp)) fun _ ho=>hx ho x y rfl
theorem Z82 {L:List Int} (hL:L.Pairwise (· < ·)) {i:Nat} {w a:Int} (hw:L[i]? = some w) (ha:a ∈ L) (h:a < w):a ∈ L.take i:=by
  obtain ⟨j,hj⟩:=List.getElem?_of_mem ha
  obtain ⟨j1,e1⟩:=List.getElem?_eq_some_iff.mp hj
  obtain ⟨i1,e2⟩:=List.getElem?_eq_some_iff.mp hw
  have hji:j < i:=by
    rcases Nat.lt_trichotomy j i with z | z | z
    . exact z
    . subst z; omega
    . have:=List.pairwise_iff_getElem.mp hL i j i1 j1 z
      omega
  exact List.mem_of_getElem? (i:=j) (by rw [List.getElem?_take_of_lt hji]; exact hj)
theorem Z7b {L:List Int} {p:Int -> Bool} {i:Nat} {w:Int} (h:L[i]? = some w):(L.take (i + 1)).filter p=(L.take i).filter p ++ if p w=true then [w] else []:=by
  rw [Z0v h,List.filter_append]
  cases hp:p w <;> simp [hp]
theorem ZdN {ins:Nat} {rows:List Row} {outs:List Int} (hr:RowsOk ins rows) (ho:∀ a ∈ outs,0 <= a /\ a < ((ins + rows.length:Nat):Int)) {i:Nat} {w:Int} (hw:(Z0G ins rows outs)[i]? = some w) (hi:(ins:Int) <= w) :
    plN ins rows outs w=(ins:Int) + ((((Z0G ins rows outs).take i).filter fun a=>decide ((ins:Int) <= a)).length:Nat):=by
  have nd:(Z0G ins rows outs).Nodup:=(Z2U hr ho).imp fun h=>by omega
  have il:=(List.getElem?_eq_some_iff.mp hw).1
  have e:Z0G ins rows outs=(Z0G ins rows outs).take i ++ w :: (Z0G ins rows outs).drop (i + 1):=by
    have:=List.take_append_drop i (Z0G ins rows outs)
    rw [List.drop_eq_getElem_cons il,(List.getElem?_eq_some_iff.mp hw).2] at this
    exact this.symm
  have hn:w ∉ (Z0G ins rows outs).take i:=by
    intro z
    rw [e] at nd
    exact (List.nodup_append.mp nd).2.2 w z w List.mem_cons_self rfl
  have e2:Z33 ins rows outs=((Z0G ins rows outs).take i).filter (fun a=>decide ((ins:Int) <= a)) ++ w :: ((Z0G ins rows outs).drop (i + 1)).filter (fun a=>decide ((ins:Int) <= a)):=by
    unfold Z33
    conv=>lhs; rw [e]
    rw [List.filter_append,List.filter_cons_of_pos (by simpa using hi)]
  unfold plN pl
  rw [if_neg (by omega)]
  rw [e2,Zb0 fun z=>hn (List.mem_filter.mp z).1]
theorem Z5A {C:Addr} {ins:Nat} {rows:List Row} {outs:List Int} (hs:ins + rows.length < 64) (hl:outs.length <= 100) (hr:RowsOk ins rows) (ho:∀ a ∈ outs,0 <= a /\ a < ((ins + rows.length:Nat):Int)) :
    Z1z C [circ C ins rows outs]=some (circ C ins (Z1D ins rows outs) (outs.map (plN ins rows outs))):=by
  have nd:=Z5z (C:=C) hs hl hr ho
  have nb:=Z12 hr ho
  have nl:=Z4u hr ho
  have fi:∀ s1 s2 s3:Slot,fFld C "ins" (fVar 0) [some (false,circ C ins rows outs),s1,s2,s3]=some (.int (ins:Int)):=fun s1 s2 s3=>Z3k rfl
  have fr:∀ s1 s2 s3:Slot,fFld C "rows" (fVar 0) [some (false,circ C ins rows outs),s1,s2,s3]=some (.lst (rows.map Row.d)):=fun s1 s2 s3=>Z2e rfl
  have fo:∀ s1 s2 s3:Slot,fFld C "outs" (fVar 0) [some (false,circ C ins rows outs),s1,s2,s3]=some (LI outs):=fun s1 s2 s3=>Z3Z rfl
  refine runE ?_
  unfold Z45
  refine wSet (d:=DI []) rfl ?_
  refine Z6w (ds:=(List.range ins).map fun (k:Nat)=>.int (k:Int)) (Z3o (xs:=[.int (ins:Int)]) (Z0d (fi _ _ _) rfl) (Zds (by omega)))
    (fun i env=>∃ kv a,env=[some (false,circ C ins rows outs),some (true,DI kv),a,none] /\ kv.length <= i /\ (∀ p ∈ kv,p.2=plN ins rows outs p.1) /\ ∀ a:Int,0 <= a -> a < (i:Int) -> a ∈ keys kv) ⟨[],none,rfl,Nat.le_refl _,fun p hp=>(by cases hp),fun a h1 h2=>by omega⟩ ?_ ?_
  . rintro i d env R hd ⟨kv,a,rfl,h1,h2,h3⟩ hR
    obtain ⟨hi,rfl⟩:=Z3C hd
    refine ⟨_,rfl,?_⟩
    refine wEq (Z5e (kv:=kv) (t:=(i:Int)) (v:=(i:Int)) rfl rfl rfl (by omega)) (hR _ ⟨putP kv (i:Int) (i:Int),some (false,.int (i:Int)),rfl,?_,?_,?_⟩)
    . have:=Z6E (kv:=kv) (t:=(i:Int)) (v:=(i:Int)); omega
    . exact Z5f (P:=fun t v=>v=plN ins rows outs t) h2 (Zc9 hr ho (by omega)).symm
    . intro b b1 b2
      rw [putP_keys]
      by_cases hb:b=(i:Int)
      . exact .inr hb
      . exact .inl (h3 b b1 (by omega))
  rintro env ⟨kv,a,rfl,h1,h2,h3⟩
  rw [List.length_map,List.length_range] at h1 h3
  refine wSet (d:=.lst []) rfl ?_
  refine Z6w (ds:=(Z0G ins rows outs).map D.int) (Z0V (Z0e (xs:=[circ C ins rows outs]) rfl nd))
    (fun i env=>∃ kv a,env=[some (false,circ C ins rows outs),some (true,DI kv),a,some (true,.lst ((((Z0G ins rows outs).take i).filter fun a=>decide ((ins:Int) <= a)).map fun w=>((Z58 ins rows w).mv (plN ins rows outs)).d))] /\ kv.length <= ins + i /\ (∀ p ∈ kv,p.2=plN ins rows outs p.1) /\ (∀ a:Int,0 <= a -> a < (ins:Int) -> a ∈ keys kv) /\ ∀ a ∈ (Z0G ins rows outs).take i,a ∈ keys kv) ⟨kv,a,rfl,by omega,h2,h3,fun a ha=>(by cases ha)⟩ ?_ ?_
  . clear h1 h2 h3 kv a
    rintro i d env R hd ⟨kv,a,rfl,h1,h2,h3,h4⟩ hR
    obtain ⟨w,hw,rfl⟩:=Z14 hd
    have hil:i < (Z0G ins rows outs).length:=(List.getElem?_eq_some_iff.mp hw).1
    have hwm:=List.mem_of_getElem? hw
    have hwb:=nb w hwm
    refine ⟨_,rfl,?_⟩
    by_cases hi:(ins:Int) <= w
    . have pn:=ZdN hr ho hw hi
      have tf:=Z7b (p:=fun a=>decide ((ins:Int) <= a)) hw
      rw [if_pos (decide_eq_true hi)] at tf
      obtain ⟨k,r,hk,ew,e1,e2⟩:=Z32 hr ho ((Z1k hr ho).mpr ⟨hwm,hi⟩)
      generalize hB:((Z0G ins rows outs).take i).filter (fun a=>decide ((ins:Int) <= a))=B at *
      have hBl:B.length <= i:=by
        have:=List.length_filter_le (fun a=>decide ((ins:Int) <= a)) ((Z0G ins rows outs).take i)
        rw [hB,List.length_take] at this; omega
      have el:∀ s1 s2 s3:Slot,fB1 FLen (Z02 (fVar 3) fNil) [s1,s2,s3,some (true,.lst (B.map fun w=>((Z58 ins rows w).mv (plN ins rows outs)).d))]=some (.int (B.length:Int)):=fun s1 s2 s3=>Z2i (xs:=[.lst (B.map fun w=>((Z58 ins rows w).mv (plN ins rows outs)).d)]) rfl (by simp only [FLen,List.length_map])
      refine Z9Z ?_ ?_
      . exact (Zd9 (x:=w) (y:=(ins:Int)) rfl (fi _ _ _)).trans (by rw [decide_eq_true hi])
      have kn:∀ a ∈ r.ws,a ∈ keys kv:=fun a ha=>by
        rw [<- e2] at ha
        have h0:=Z1K hr ha
        exact h4 a (Z82 (Z2U hr ho) hw (Z3U hr ho hwm ha) h0.2)
      have hm:r.mv (lk (putP kv w ((ins:Int) + (B.length:Int))))=r.mv (plN ins rows outs):=Zci fun a ha=>by
        have:=Z7E (kv:=putP kv w ((ins:Int) + (B.length:Int))) (t:=a) (putP_keys.mpr (.inl (kn a ha)))
        exact Z5f (P:=fun t v=>v=plN ins rows outs t) (t:=w) (v:=(ins:Int) + (B.length:Int)) h2 pn.symm _ this
      have me:=Zcj (C:=C) (r:=r) (kv:=putP kv w ((ins:Int) + (B.length:Int))) fun a ha=>putP_keys.mpr (.inl (kn a ha))
      rw [hm] at me
      have p1:Z49 1 (fVar 2) (fI0 (fun i j=>.int (i + j)) (fFld C "ins" (fVar 0)) (fB1 FLen (Z02 (fVar 3) fNil))) [some (false,circ C ins rows outs),some (true,DI kv),some (false,.int w),some (true,.lst (B.map fun w=>((Z58 ins rows w).mv (plN ins rows outs)).d))]=.next [some (false,circ C ins rows outs),some (true,DI (putP kv w ((ins:Int) + (B.length:Int)))),some (false,.int w),some (true,.lst (B.map fun w=>((Z58 ins rows w).mv (plN ins rows outs)).d))] :=
        Z5e (kv:=kv) (t:=w) (v:=(ins:Int) + (B.length:Int)) (by rw [ev_I0',fi,el]) rfl rfl (by omega)
      have p2:Z0f (Z4c C) [] (Z02 (fIx (fFld C "rows" (fVar 0)) (fI0 (fun i j=>.int (i - j)) (fVar 2) (fFld C "ins" (fVar 0)))) (Z02 (fVar 1) fNil)) [some (false,circ C ins rows outs),some (true,DI (putP kv w ((ins:Int) + (B.length:Int)))),some (false,.int w),some (true,.lst (B.map fun w=>((Z58 ins rows w).mv (plN ins rows outs)).d))]=some (r.mv (plN ins rows outs)).d:=by
        refine Z0e (xs:=[r.d,DI (putP kv w ((ins:Int) + (B.length:Int)))]) (Z0d ?_ rfl) me
        rw [ev_Ix,fr,ev_I0',fi]
        exact Z41 hk (a:=w - (ins:Int)) (by omega)
      refine wSeq (wEq p1 ?_)
      refine Z79 p2 rfl (by rw [List.length_map]; omega) (hR _ ⟨putP kv w ((ins:Int) + (B.length:Int)),some (false,.int w),?_,?_,?_,?_,?_⟩)
      . rw [tf,List.map_append,List.map_cons,List.map_nil,e1]; rfl
      . have:=Z6E (kv:=kv) (t:=w) (v:=(ins:Int) + (B.length:Int)); omega
      . exact Z5f (P:=fun t v=>v=plN ins rows outs t) h2 pn.symm
      . exact fun b b1 b2=>putP_keys.mpr (.inl (h3 b b1 b2))
      . intro b hb
        rw [Z0v hw] at hb
        rcases List.mem_append.mp hb with z | z
        . exact putP_keys.mpr (.inl (h4 b z))
        . exact putP_keys.mpr (.inr (by simpa using z))
    . have tf:=Z7b (p:=fun a=>decide ((ins:Int) <= a)) hw
      rw [if_neg (by simpa using hi),List.append_nil] at tf
      refine Z84 ?_ (Z9Y (hR _ ⟨kv,some (false,.int w),?_,by omega,h2,h3,?_⟩))
      . exact (Zd9 (x:=w) (y:=(ins:Int)) rfl (fi _ _ _)).trans (by rw [decide_eq_false hi])
      . rw [tf]; rfl
      . intro b hb
        rw [Z0v hw] at hb
        rcases List.mem_append.mp hb with z | z
        . exact h4 b z
        . have:b=w:=by simpa using z
          rw [this]; exact h3 w hwb.1 (by omega)
  clear h1 h2 h3 kv a
  rintro env ⟨kv,a,rfl,h1,h2,h3,h4⟩
  rw [List.length_map,List.take_length] at h4 ⊢
  have er:(((Z0G ins rows outs).filter fun a=>decide ((ins:Int) <= a)).map fun w=>((Z58 ins rows w).mv (plN ins rows outs)).d)=(Z1D ins rows outs).map Row.d:=by unfold Z1D Z33; rw [List.map_map]; rfl
  rw [er]
  have rl:=Z7k hr ho
  have al:=Z3O hr ho
  have ec:Z1E [1] (fSeq (fFld C "outs" (fVar 0))) fTT (Z4f (fVar 1) (fVar 0)) [some (false,circ C ins rows outs),some (true,DI kv),a,some (true,.lst ((Z1D ins rows outs).map Row.d))]=some (LI (outs.map (plN ins rows outs))):=by
    rw [Z1y D.int (fun a=>.int (plN ins rows outs a)) (xs:=outs) (Z0V (fo _ _ _)) (by omega) (fun a ha=>by
      have hk:=h4 a (Z1H hr ho ha)
      have:=h2 _ (Z7E hk)
      rw [<- show lk kv a=plN ins rows outs a from this]
      exact Z40 (kv:=kv) rfl rfl hk)]
    simp [LI,Function.comp_def]
  refine wRet (d:=circ C ins (Z1D ins rows outs) (outs.map (plN ins rows outs))) ?_ rfl
  exact Z2i (xs:=[.int (ins:Int),.lst ((Z1D ins rows outs).map Row.d),LI (outs.map (plN ins rows outs))]) (Z0d (fi _ _ _) (Z0d rfl (Z0d ec rfl))) (Z6S (by omega))
theorem ZeG {fa:En -> Option D} {env:En} {r:Row} (h:fa env=some r.d):fIx fa (fC (.int 0)) env=some (.str (Ze8 r)):=by
  rw [ev_Ix,h]
  cases r <;> rfl
theorem Zbl {c:En -> Option Bool} {env:En} {b:Bool} (h:c env=some b):fNot c env=some (!b):=by rw [ev_Not,h]; rfl
theorem SP.inw {ins:Nat} {rows:List Row} {f:Flt} {P:List Int} {kv:List (Int × Int)} {R:List Row} (h:SP ins rows f P kv R) (hf:FltOk ins rows f) {w:Int} (h0:0 <= w) (h1:w < (ins:Int)):nth (Z03 ins rows f) w ∈ keys kv:=by
  have hi:w.toNat < ins:=by omega
  have q1:=Z1A (Z24 (rows:=rows) (f:=f) hi) (a:=w) (by omega)
  have q2:(tab (2 ^ ins) fun g=>decide (g / 2 ^ w.toNat % 2=1)) ∈ keys kv:=h.i _ (List.mem_of_getElem? (Z4P ins w.toNat hi))
  rw [q1]
  cases f with
  | none=>exact q2
  | leg _ _ _=>exact q2
  | wire w' b =>
    unfold Z0y
    by_cases hc:w'=((w.toNat:Nat):Int)
    . simp only [hc,if_true]
      rcases hf.w w' b rfl with z | z
      . rw [z,Int.mul_zero]; exact h.z
      . rw [z,Int.mul_one]; exact h.u
    . simp only [hc,if_false]; exact q2
theorem Z8q (ins:Nat):RowsOk ins (fix2 []):=by
  intro k r hk
  match k with
  | 0=>cases hk; exact .inl rfl
  | 1=>cases hk; exact .inr rfl
  | k + 2=>cases hk
theorem SP.start {ins:Nat} {rows:List Row} {f:Flt} {kv:List (Int × Int)} (hb:∀ p ∈ kv,(0 <= p.2 /\ p.2 < ((ins + 2:Nat):Int)) /\ nth (Z03 ins (fix2 []) .none) p.2=p.1) (hz:0 ∈ keys kv) (hu:Z09 (2 ^ ins) ∈ keys kv) (hi:∀ t ∈ inT ins,t ∈ keys kv):SP ins rows f [] kv [] :=
  ⟨Z8q ins,hb,hz,hu,hi,fun w hw=>(by cases hw),fun r hr=>(by cases hr),Nat.zero_le _,Nat.zero_le _⟩
theorem Zg7 {fa fb fc fd:En -> Option D} {env:En} {o i j:Int} (ha:fa env=some (.int 0)) (hb:fb env=some (.int i)) (hc:fc env=some (.int o)) (hd:fd env=some (.int j)) (ho:o ≠ 0):Zbn (Z6X fa fb (Z6X fc fd Z7P)) env=some (DI [(0,i),(o,j)]):=by
  have e1:Z6X fa fb (Z6X fc fd Z7P) env=some [((Sum.inl 0:Key),i),(Sum.inl o,j)]:=by
    unfold Z6X Z7P
    simp only [ha,hb,hc,hd,keyOf]
  have e2:Z9Q [((Sum.inl 0:Key),i),(Sum.inl o,j)]=[((Sum.inl 0:Key),V.int i),(Sum.inl o,V.int j)]:=by
    have:¬ (Sum.inl 0:Key)=Sum.inl o:=fun z=>ho (Sum.inl.inj z).symm
    simp [Z9Q,Z4Z,putK,this]
  simp only [Zbn,e1,e2]
  rfl
theorem Z3m {C:Addr} {ins:Nat} {rows:List Row} {outs:List Int} {f:Flt} (hi:ins <= 8) (hs:ins + rows.length < 50) (hl:outs.length <= 100) (hr:RowsOk ins rows) (ho:∀ a ∈ outs,0 <= a /\ a < ((ins + rows.length:Nat):Int)) (hf:FltOk ins rows f) (hid:∀ a ∈ outs,nth (Z03 ins rows f) a=nth (Z03 ins rows .none) a) :
    ∃ d,Z13 C [circ C ins rows outs,f.d]=some d /\ ∃ rows2 outs2,d=circ C ins rows2 outs2 /\ Slimmed ins rows outs ((Z0G ins rows outs).filter (lose ins rows f)).length rows2 outs2:=by
  have nd:=Z5z (C:=C) (by omega) hl hr ho
  have nb:=Z12 hr ho
  have nl:=Z4u hr ho
  have tq:=Z7c (C:=C) (outs:=outs) hi (by omega) hr hf
  have ft:=full_table (C:=C) hi
  have it:=input_tables (C:=C) hi
  have il:=Z2x ins
  have fp:=Z5P ins
  have vl:=Z0Z ins rows f
  let S0:Slot:=some (false,circ C ins rows outs)
  let S1:Slot:=some (false,f.d)
  let S2:Slot:=some (true,LI (Z03 ins rows f))
  let S3:Slot:=some (true,.int (Z09 (2 ^ ins)))
  have fi:∀ r:List Slot,fFld C "ins" (fVar 0) (S0 :: r)=some (.int (ins:Int)):=fun r=>Z3k rfl
  have fr:∀ r:List Slot,fFld C "rows" (fVar 0) (S0 :: r)=some (.lst (rows.map Row.d)):=fun r=>Z2e rfl
  have fo:∀ r:List Slot,fFld C "outs" (fVar 0) (S0 :: r)=some (LI outs):=fun r=>Z3Z rfl
  refine runW ?_
  unfold Z3L
  refine wSet (Z0e (xs:=[circ C ins rows outs,f.d]) rfl tq) ?_
  refine wSet (Z0e (xs:=[.int ins]) (Z0d (fi _) rfl) ft) ?_
  refine wSet (d:=.lst ((fix2 []).map Row.d)) rfl ?_
  refine wSet (Zg7 (o:=Z09 (2 ^ ins)) (i:=(ins:Int)) (j:=(ins:Int) + 1) rfl (fi _) rfl (Zd8 (x:=(ins:Int)) (y:=1) (fi _) rfl) (by omega)) ?_
  refine Z6w (ds:=((inT ins).map D.int).mapIdx fun i d=>.tup [.int i,d]) (Z3o (xs:=[LI (inT ins)]) (Z0d (Z0e (xs:=[.int ins]) (Z0d (fi _) rfl) it) rfl) (by simp only [Z4i,LI]))
    (fun i env=>∃ kv a b,env=[S0,S1,S2,S3,some (true,.lst ((fix2 []).map Row.d)),some (true,DI kv),a,b,none,none] /\ kv.length <= 2 + i /\ (∀ p ∈ kv,(0 <= p.2 /\ p.2 < ((ins + 2:Nat):Int)) /\ nth (Z03 ins (fix2 []) .none) p.2=p.1) /\ 0 ∈ keys kv /\ Z09 (2 ^ ins) ∈ keys kv /\ ∀ t ∈ (inT ins).take i,t ∈ keys kv)
    ⟨[(0,(ins:Int)),(Z09 (2 ^ ins),(ins:Int) + 1)],none,none,rfl,Nat.le_refl _,fun p hp=>?_,by simp [keys],by simp [keys],fun t ht=>(by cases ht)⟩ ?_ ?_
  . rcases (show p=(0,(ins:Int)) \/ p=(Z09 (2 ^ ins),(ins:Int) + 1) by simpa using hp) with z | z
    . rw [z]; exact ⟨by show (0:Int) <= (ins:Int) /\ (ins:Int) < _; omega,Z5R (Z8q ins)⟩
    . rw [z]; exact ⟨by show (0:Int) <= (ins:Int) + 1 /\ (ins:Int) + 1 < _; omega,Z5Q (Z8q ins)⟩
  . rintro i d env R hd ⟨kv,a,b,rfl,h1,h2,h3,h4,h5⟩ hR
    obtain ⟨e,he,rfl⟩:=Z34 hd
    obtain ⟨t,ht,rfl⟩:=Z14 he
    have hil:i < ins:=by have:=(List.getElem?_eq_some_iff.mp ht).1; omega
    refine ⟨_,rfl,?_⟩
    refine wEq (Z5e (kv:=kv) (t:=t) (v:=(i:Int)) rfl rfl rfl (by omega)) (hR _ ⟨putP kv t (i:Int),some (false,.int (i:Int)),some (false,.int t),rfl,?_,?_,?_,?_,?_⟩)
    . have:=Z6E (kv:=kv) (t:=t) (v:=(i:Int)); omega
    . refine Z5f (P:=fun t v=>(0 <= v /\ v < ((ins + 2:Nat):Int)) /\ nth (Z03 ins (fix2 []) .none) v=t) h2 ⟨by omega,?_⟩
      have q1:=Z1A (Z24 (rows:=fix2 []) (f:=.none) hil) (a:=(i:Int)) rfl
      have q2:=Z4P ins i hil
      rw [ht] at q2
      rw [q1]
      exact (Option.some.inj q2).symm
    . exact putP_keys.mpr (.inl h3)
    . exact putP_keys.mpr (.inl h4)
    . intro b hb
      rw [Z0v ht] at hb
      rcases List.mem_append.mp hb with z | z
      . exact putP_keys.mpr (.inl (h5 b z))
      . exact putP_keys.mpr (.inr (by simpa using z))
  rintro env ⟨kv,a,b,rfl,h1,h2,h3,h4,h5⟩
  rw [List.length_mapIdx,List.length_map,il] at h1
  rw [List.length_mapIdx,List.length_map,List.take_length] at h5
  have sp0:SP ins rows f [] kv []:=.start h2 h3 h4 h5
  clear h2 h3 h4 h5
  refine Z6w (ds:=(Z0G ins rows outs).map D.int) (Z0V (Z0e (xs:=[circ C ins rows outs]) rfl nd))
    (fun i env=>∃ kv R a b c e,env=[S0,S1,S2,S3,some (true,.lst ((fix2 R).map Row.d)),some (true,DI kv),a,b,c,e] /\ kv.length <= 2 + ins + i /\ R.length <= i /\ SP ins rows f ((Z0G ins rows outs).take i) kv R) ⟨kv,[],a,b,none,none,rfl,h1,Nat.le_refl _,sp0⟩ ?_ ?_
  . clear sp0 h1 kv a b
    rintro i d env Q hd ⟨kv,R,a,b,c,e,rfl,h1,h2,sp⟩ hQ
    obtain ⟨w,hw,rfl⟩:=Z14 hd
    have hil:i < (Z0G ins rows outs).length:=(List.getElem?_eq_some_iff.mp hw).1
    have hwm:=List.mem_of_getElem? hw
    have hwb:=nb w hwm
    have ev:∀ s4 s5 s7 s8 s9:Slot,fIx (fVar 2) (fVar 6) [S0,S1,S2,S3,s4,s5,some (false,.int w),s7,s8,s9]=some (.int (nth (Z03 ins rows f) w)):=fun s4 s5 s7 s8 s9=>Z2S hwb.1 (by rw [vl]; exact hwb.2)
    refine ⟨_,rfl,?_⟩
    by_cases hk:nth (Z03 ins rows f) w ∈ keys kv
    . refine Z84 ?_ (Z9Y (hQ _ ⟨kv,R,some (false,.int w),b,c,e,rfl,by omega,by omega,?_⟩))
      . exact Zbl (b:=true) ((Zbm (kv:=kv) (ev _ _ _ _ _) rfl).trans (by rw [decide_eq_true hk]))
      . rw [Z0v hw]; exact sp.skip hk
    . have hiw:(ins:Int) <= w:=by
        refine Int.not_lt.mp fun z=>hk (sp.inw hf hwb.1 z)
      obtain ⟨k,r,hrk,ew,e1,e2⟩:=Z32 hr ho ((Z1k hr ho).mpr ⟨hwm,hiw⟩)
      have hrow:=hr k r hrk
      refine Z9Z ?_ ?_
      . exact Zbl (b:=false) ((Zbm (kv:=kv) (ev _ _ _ _ _) rfl).trans (by rw [decide_eq_false hk]))
      refine wSet (d:=r.d) ?_ ?_
      . exact Z97 ((Zfm (fr _) (Zd8 (x:=w) (y:=(ins:Int)) rfl (fi _))).trans (Z41 hrk (a:=w - (ins:Int)) (by omega))) (Z8K r)
      have lv:=leg_values (C:=C) (r:=r) (w:=w) (o:=Z09 (2 ^ ins)) (vs:=Z03 ins rows f) (f:=f) (fun a ha=>by have:=hrow.ws a ha; rw [vl]; have hkl:=(List.getElem?_eq_some_iff.mp hrk).1; omega) (fun w' l b h hw'=>hf.leg w' l b k r h hrk (hw'.trans ew)) (fun w' l b h=>Z8x (hf.l w' l b h))
      refine wSet (Z0e (xs:=[r.d,.int w,LI (Z03 ins rows f),.int (Z09 (2 ^ ins)),f.d]) rfl lv) ?_
      have hP:∀ a ∈ r.ws,a ∈ (Z0G ins rows outs).take i:=fun a ha=>by
        rw [<- e2] at ha
        have h0:=Z1K hr ha
        exact Z82 (Z2U hr ho) hw (Z3U hr ho hwm ha) h0.2
      have lsk:∀ t ∈ legs r w (Z03 ins rows f) (Z09 (2 ^ ins)) f,t ∈ keys kv:=Z6U (P:=[]) (K:=(· ∈ keys kv)) hf sp.z sp.u fun a ha=>sp.dn a (hP a ha)
      have lst:∀ t ∈ legs r w (Z03 ins rows f) (Z09 (2 ^ ins)) f,IsT (2 ^ ins) t:=Z6U (P:=[]) (K:=IsT (2 ^ ins)) hf (Z4y _) (Z4z _) fun a _=>Z20 hr hf a
      have hne:∀ t,t ∈ keys kv -> t ≠ nth (Z03 ins rows f) w:=fun t ht z=>hk (z ▸ ht)
      have spn:=sp.add hr hf hrk ew hP hk (g:=lk (kv ++ [(nth (Z03 ins rows f) w,((ins + 2 + R.length:Nat):Int))])) (fun t ht=>by
        have:=Z7E (kv:=kv ++ [(nth (Z03 ins rows f) w,((ins + 2 + R.length:Nat):Int))]) (t:=t) (keys_snoc.mpr (.inl ht))
        rcases List.mem_append.mp this with z | z
        . exact z
        . exfalso
          have:=congrArg Prod.fst (List.mem_singleton.mp z)
          exact hne t ht this)
      have nfix:∀ b,r ≠ .fix b:=by
        intro b z
        subst z
        have hV:=Z25 (f:=f) hr hrk
        rw [<- ew] at hV
        apply hk
        rw [hV]
        have hb1:Z09 (2 ^ ins) * b ∈ keys kv:=by
          rcases (show b=0 \/ b=1 from hrow) with z | z
          . rw [z,Int.mul_zero]; exact sp.z
          . rw [z,Int.mul_one]; exact sp.u
        cases f with
        | none=>exact hb1
        | leg _ _ _=>exact hb1
        | wire w' c =>
          unfold Z0y
          by_cases hc:w'=w
          . simp only [hc,if_true]
            rcases hf.w w' c rfl with z | z
            . rw [z,Int.mul_zero]; exact sp.z
            . rw [z,Int.mul_one]; exact sp.u
          . simp only [hc,if_false]; exact hb1
      have hll:=Z6T r w (Z03 ins rows f) (Z09 (2 ^ ins)) f
      generalize legs r w (Z03 ins rows f) (Z09 (2 ^ ins)) f=ls at lsk lst spn lv hll
      have pr:=Z7n (C:=C) (r:=r) (o:=Z09 (2 ^ ins)) (ls:=ls) (kv:=kv ++ [(nth (Z03 ins rows f) w,((ins + 2 + R.length:Nat):Int))]) nfix hll (fun t ht=>keys_snoc.mpr (.inl (lsk t ht))) (fun hm x y hxy=>by
        subst hxy
        have tx:=lst x (by simp)
        have ty:=lst y (by simp)
        rcases (show Z09 (2 ^ ins)=x \/ Z09 (2 ^ ins)=y by simpa using hm) with z | z
        . rw [<- z,t_xx ty]; exact keys_snoc.mpr (.inl (lsk y (by simp)))
        . rw [<- z,t_xc tx,t_xx tx]; exact keys_snoc.mpr (.inl (lsk x (by simp))))
      have hpl:Z49 5 (fIx (fVar 2) (fVar 6)) (fI0 (fun i j=>.int (i + j)) (fFld C "ins" (fVar 0)) (fB1 FLen (Z02 (fVar 4) fNil))) [S0,S1,S2,S3,some (true,.lst ((fix2 R).map Row.d)),some (true,DI kv),some (false,.int w),b,some (true,r.d),some (true,LI ls)]=.next [S0,S1,S2,S3,some (true,.lst ((fix2 R).map Row.d)),some (true,DI (kv ++ [(nth (Z03 ins rows f) w,((ins + 2 + R.length:Nat):Int))])),some (false,.int w),b,some (true,r.d),some (true,LI ls)]:=by
        rw [Z5e (kv:=kv) (t:=nth (Z03 ins rows f) w) (v:=((ins + 2 + R.length:Nat):Int)) ?_ rfl (ev _ _ _ _ _) (by omega),Zc2 hk]
        . rfl
        . rw [ev_I0',fi]
          rw [show fB1 FLen (Z02 (fVar 4) fNil) [S0,S1,S2,S3,some (true,.lst ((fix2 R).map Row.d)),some (true,DI kv),some (false,.int w),b,some (true,r.d),some (true,LI ls)]=some (.int ((R.length + 2:Nat):Int)) from Z2i (xs:=[.lst ((fix2 R).map Row.d)]) rfl (by simp only [FLen,List.length_map,Z2W])]
          show some (D.int ((ins:Int) + ((R.length + 2:Nat):Int)))=_
          rw [show (ins:Int) + ((R.length + 2:Nat):Int)=((ins + 2 + R.length:Nat):Int) by omega]
      refine wSeq (wEq hpl ?_)
      refine Z79 (d:=(Z2T (lk (kv ++ [(nth (Z03 ins rows f) w,((ins + 2 + R.length:Nat):Int))])) (Z09 (2 ^ ins)) ls r).d) (Z0e (xs:=[.str (Ze8 r),LI ls,.int (Z09 (2 ^ ins)),DI (kv ++ [(nth (Z03 ins rows f) w,((ins + 2 + R.length:Nat):Int))])]) ?_ pr) rfl (by rw [List.length_map,Z2W]; omega) (hQ _ ⟨_,_,some (false,.int w),b,some (true,r.d),some (true,LI ls),?_,?_,?_,by rw [Z0v hw]; exact spn⟩)
      . exact Z0d (ZeG rfl) rfl
      . rw [Z5S,List.map_append]; rfl
      . rw [List.length_append]; simp only [List.length_cons,List.length_nil]; omega
      . rw [List.length_append]; simp only [List.length_cons,List.length_nil]; omega
  clear sp0 h1 kv a b
  rintro env ⟨kv,R,a,b,c,e,rfl,h1,h2,sp⟩
  rw [List.length_map] at h1 h2
  rw [List.length_map,List.take_length] at sp
  have hg:∀ t ∈ keys kv,(t,lk kv t) ∈ kv:=fun t ht=>Z7E ht
  have dn:=sp.done hr ho hid hg rfl
  have o':=sp.outs (fun a ha=>Z1H hr ho ha) hg
  have ec:Z1E [5,2] (fSeq (fFld C "outs" (fVar 0))) fTT (Z4f (fVar 1) (fIx (fVar 2) (fVar 0))) [S0,S1,S2,S3,some (true,.lst ((fix2 R).map Row.d)),some (true,DI kv),a,b,c,e]=some (LI (outs.map fun a=>lk kv (nth (Z03 ins rows f) a))):=by
    rw [Z1y D.int (fun a=>.int (lk kv (nth (Z03 ins rows f) a))) (xs:=outs) (Z0V (fo _)) (by omega) (fun a ha=>by
      have hb:=ho a ha
      refine Z40 (kv:=kv) (t:=nth (Z03 ins rows f) a) rfl ?_ (sp.dn a (Z1H hr ho ha))
      exact Z2S hb.1 (by rw [vl]; exact hb.2))]
    simp [LI,Function.comp_def]
  have na:=Z5A (C:=C) (ins:=ins) (rows:=fix2 R) (outs:=outs.map fun a=>lk kv (nth (Z03 ins rows f) a)) (by rw [Z2W]; omega) (by rw [List.length_map]; exact hl) sp.ok o'
  refine wRet (Z0e (xs:=[circ C ins (fix2 R) (outs.map fun a=>lk kv (nth (Z03 ins rows f) a))]) (Z0d ?_ rfl) na) ⟨_,rfl,_,_,rfl,dn⟩
  exact Z2i (xs:=[.int (ins:Int),.lst ((fix2 R).map Row.d),LI (outs.map fun a=>lk kv (nth (Z03 ins rows f) a))]) (Z0d (fi _) (Z0d rfl (Z0d ec rfl))) (Z6S (by rw [Z2W]; omega))
theorem Za3 {ins:Nat} {rows:List Row} {outs:List Int} {f:Flt} (hr:RowsOk ins rows) (hf:FltOk ins rows f):Z3t (Z03 ins rows .none) (Z03 ins rows f) outs=0 ↔ ∀ a ∈ outs,nth (Z03 ins rows f) a=nth (Z03 ins rows .none) a:=by
  rw [Z9l (n:=2 ^ ins) (fun a=>Z20 hr FltOk.no a) (fun a=>Z20 hr hf a)]
  exact List.map_inj_left
theorem Z4A {C:Addr} {ins:Nat} {rows:List Row} {outs:List Int} (hi:ins <= 8) (hs:ins + rows.length < 64) (hl:outs.length <= 100) (hr:RowsOk ins rows) (ho:∀ a ∈ outs,0 <= a /\ a < ((ins + rows.length:Nat):Int)) :
    ∃ d,Z1J C [circ C ins rows outs]=some d /\ ((∃ f ∈ Z23 ins rows outs,d=f.d /\ ∀ a ∈ outs,nth (Z03 ins rows f) a=nth (Z03 ins rows .none) a) \/ (d=.non /\ ∀ f ∈ Z23 ins rows outs,Z3t (Z03 ins rows .none) (Z03 ins rows f) outs ≠ 0)):=by
  have fo:=fun f hf=>(Z4R (outs:=outs) hr f hf).1
  have af:=Z74 (C:=C) hs hl hr ho
  have ot:∀ f,FltOk ins rows f -> Z0S C [circ C ins rows outs,f.d]=some (LI (outs.map (nth (Z03 ins rows f)))):=fun f hf=>Z6I hi (by omega) hr hf (by omega) ho
  refine runW ?_
  unfold Z52
  refine wSet (Z0e (xs:=[circ C ins rows outs]) rfl (ot .none FltOk.no)) ?_
  refine wFor (ds:=(Z23 ins rows outs).map Flt.d) (Z0V (Z0e (xs:=[circ C ins rows outs]) rfl af))
    (fun i env=>(∃ a,env=[some (false,circ C ins rows outs),some (true,LI (outs.map (nth (Z03 ins rows .none)))),a]) /\ ∀ f ∈ (Z23 ins rows outs).take i,Z3t (Z03 ins rows .none) (Z03 ins rows f) outs ≠ 0) ⟨⟨none,rfl⟩,fun f hf=>(by cases hf)⟩ ?_ ?_
  . rintro i d env hd ⟨⟨a,rfl⟩,h1⟩
    obtain ⟨f,hf,rfl⟩:=Z14 hd
    have hfm:=List.mem_of_getElem? hf
    have df:=Z7R (C:=C) (A:=Z03 ins rows .none) (B:=Z03 ins rows f) (outs:=outs)
    have ed:Z0f (Z1w C) [] (Z02 (fVar 1) (Z02 (Z0f (Z0S C) [] (Z02 (fVar 0) (Z02 (fVar 2) fNil))) fNil)) [some (false,circ C ins rows outs),some (true,LI (outs.map (nth (Z03 ins rows .none)))),some (false,f.d)]=some (.int (Z3t (Z03 ins rows .none) (Z03 ins rows f) outs)) :=
      Z0e (xs:=[LI (outs.map (nth (Z03 ins rows .none))),LI (outs.map (nth (Z03 ins rows f)))]) (Z0d rfl (Z0d (Z0e (xs:=[circ C ins rows outs,f.d]) rfl (ot f (fo f hfm))) rfl)) df
    refine ⟨_,rfl,?_⟩
    by_cases hz:Z3t (Z03 ins rows .none) (Z03 ins rows f) outs=0
    . refine Z9Z ?_ (wRet (d:=f.d) ?_ ?_)
      . rw [ev_Eq]
        show (match Z0f (Z1w C) [] _ [some (false,circ C ins rows outs),some (true,LI (outs.map (nth (Z03 ins rows .none)))),some (false,f.d)],_ with | some x,some y=>eqN 8 x y | _,_=>none)=_
        rw [ed,hz]
        simp only [ev_C,eqN_int,decide_true]
      . rw [ev_Flat]
        show (match some f.d with | some d=>if PD.flat d=true then some d else none | none=>none)=_
        simp only [Z96,if_true]
      . exact ⟨_,rfl,.inl ⟨f,hfm,rfl,(Za3 hr (fo f hfm)).mp hz⟩⟩
    . refine Z84 ?_ (Z9Y ⟨⟨some (false,f.d),rfl⟩,?_⟩)
      . rw [ev_Eq]
        show (match Z0f (Z1w C) [] _ [some (false,circ C ins rows outs),some (true,LI (outs.map (nth (Z03 ins rows .none)))),some (false,f.d)],_ with | some x,some y=>eqN 8 x y | _,_=>none)=_
        rw [ed]
        simp only [ev_C,eqN_int,hz,decide_false]
      . intro g hg
        rw [Z0v hf] at hg
        rcases List.mem_append.mp hg with z | z
        . exact h1 g z
        . have:g=f:=by simpa using z
          rw [this]; exact hz
  . rintro env ⟨⟨a,rfl⟩,h1⟩
    rw [List.length_map,List.take_length] at h1
    exact wRet (d:=.non) rfl ⟨_,rfl,.inr ⟨rfl,h1⟩⟩
theorem Slimmed.trans {ins:Nat} {rows rows1 rows2:List Row} {outs outs1 outs2:List Int} {d e:Nat} (h:Slimmed ins rows outs d rows1 outs1) (k:Slimmed ins rows1 outs1 e rows2 outs2):Slimmed ins rows outs 0 rows2 outs2 :=
  ⟨k.rk,k.ok,k.ol.trans h.ol,k.tb.trans h.tb,Nat.le_trans k.le h.le,by have:=h.lg; have:=k.lg; omega,k.nd⟩
theorem Z8j {C:Addr} {ins:Nat} {rows:List Row} {outs:List Int} (hi:ins <= 8) (hs:ins + rows.length < 50) (hl:outs.length <= 100) (hr:RowsOk ins rows) (ho:∀ a ∈ outs,0 <= a /\ a < ((ins + rows.length:Nat):Int)) :
    ∃ d,Z50 C [circ C ins rows outs]=some d /\ ∃ rows2 outs2,d=circ C ins rows2 outs2 /\ Slimmed ins rows outs 0 rows2 outs2 /\ ∀ f ∈ Z23 ins rows2 outs2,Z3t (Z03 ins rows2 .none) (Z03 ins rows2 f) outs2 ≠ 0:=by
  refine runW ?_
  unfold Zd4
  obtain ⟨_,ws,rows1,outs1,rfl,s1⟩:=Z3m (C:=C) (f:=.none) hi hs hl hr ho FltOk.no (fun a _=>rfl)
  have s1':Slimmed ins rows outs 0 rows1 outs1:=⟨s1.rk,s1.ok,s1.ol,s1.tb,s1.le,by have:=s1.lg; omega,s1.nd⟩
  clear s1
  refine wSet (Z0e (xs:=[circ C ins rows outs,Flt.none.d]) rfl ws) ?_
  have l1:∀ {rows1 outs1},Slimmed ins rows outs 0 rows1 outs1 -> ins + rows1.length < 50 /\ outs1.length <= 100:=fun s=>by
    have h1:=s.le; have h2:=s.ol
    exact ⟨by omega,by omega⟩
  obtain ⟨d1,fi,hd⟩:=Z4A (C:=C) (ins:=ins) (rows:=rows1) (outs:=outs1) hi (by have:=l1 s1'; omega) (l1 s1').2 s1'.rk s1'.ok
  refine wSet (Z0e (xs:=[circ C ins rows1 outs1]) rfl fi) ?_
  refine ZcO (fun m env=>∃ rows1 outs1 d,env=[some (false,circ C ins rows outs),some (true,circ C ins rows1 outs1),some (true,d)] /\ Slimmed ins rows outs 0 rows1 outs1 /\ Z3f rows1=m /\ ((∃ f ∈ Z23 ins rows1 outs1,d=f.d /\ ∀ a ∈ outs1,nth (Z03 ins rows1 f) a=nth (Z03 ins rows1 .none) a) \/ (d=.non /\ ∀ f ∈ Z23 ins rows1 outs1,Z3t (Z03 ins rows1 .none) (Z03 ins rows1 f) outs1 ≠ 0))) (m:=Z3f rows1) ⟨rows1,outs1,d1,rfl,s1',rfl,hd⟩ ?_
  clear hd fi ws s1' d1 rows1 outs1
  rintro m env ⟨rows1,outs1,d,rfl,s1,rfl,hd⟩
  have hb:=l1 s1
  rcases hd with ⟨f,hf,rfl,hid⟩ | ⟨rfl,hn⟩
  . right
    have fok:=Z4R (outs:=outs1) s1.rk f hf
    constructor
    . rw [ev_IsN]
      cases f with
      | none=>exact absurd rfl fok.2
      | wire _ _=>rfl
      | leg _ _ _=>rfl
    . obtain ⟨_,ws,rows2,outs2,rfl,s2⟩:=Z3m (C:=C) (f:=f) hi hb.1 hb.2 s1.rk s1.ok fok.1 hid
      have lx:=Ze7 s1.rk s1.ok hf hid
      have s12:=s1.trans s2
      have hb2:=l1 s12
      obtain ⟨d2,fi,hd2⟩:=Z4A (C:=C) (ins:=ins) (rows:=rows2) (outs:=outs2) hi (by omega) hb2.2 s2.rk s2.ok
      refine wSet (Z0e (xs:=[circ C ins rows1 outs1,f.d]) rfl ws) ?_
      refine Zde (Z0e (xs:=[circ C ins rows2 outs2]) rfl fi) ?_
      have:=s2.lg
      exact ⟨Z3f rows2,by omega,rows2,outs2,d2,rfl,s12,rfl,hd2⟩
  . left
    refine ⟨rfl,Zfs (d:=circ C ins rows1 outs1) rfl ⟨_,rfl,rows1,outs1,rfl,s1,hn⟩⟩
theorem Z8l {C:Addr} {c k:Int} (hc:Builtin.Int.intBits c <= 1048700) (hk:0 <= k):∃ m,0 <= m /\ m < 2147483648 /\ Z1c C [.int c,.int k]=some (.int m):=by
  have p1:CPow 10 40:=⟨by decide,by decide,by decide⟩
  have p2:CShl 1 (31 * (k % 60)):=Z70 (by omega) (by omega)
  have p3:CShl 1 31:=Z70 (by decide) (by decide)
  have m1:IntMulOk 31 (k % 60):=Z3H (by decide) (by decide)
  have m2:IntMulOk c c:=PySem.IntMulOk.of_le hc hc (by decide)
  have m3:IntMulOk 3 c:=Z3H (by decide) (by decide)
  have m4:IntMulOk 7919 k:=Z3H (by decide) (by decide)
  have m5:∀ x,IntMulOk x 48271:=fun x=>Z8g (by decide) (by decide)
  have q1:(0:Int) < 60:=by decide
  have q2:(0:Int) < 1 * 2 ^ Int.toNat 31:=by decide
  have q3:(0:Int) < 2147483629:=by decide
  have q4:(0:Int) < 2147483587:=by decide
  have d1:Z2h (c - 10 ^ Int.toNat 40) (1 * 2 ^ (31 * (k % 60)).toNat):=Z9c (by omega)
  by_cases h:(10:Int) ^ Int.toNat 40 <= c
  . refine ⟨(c - 10 ^ Int.toNat 40) / (1 * 2 ^ (31 * (k % 60)).toNat) % (1 * 2 ^ Int.toNat 31),Int.emod_nonneg _ (by decide),Int.emod_lt_of_pos _ (by decide),?_⟩
    unfold Z1c Z5M
    walk_at "ev"
  . refine ⟨((c * c + 3 * c + 7919 * k + 1) * 48271 % 2147483629 * ((c * c + 3 * c + 7919 * k + 1) * 48271 % 2147483629) + 7) % 2147483587,Int.emod_nonneg _ (by decide),Int.lt_trans (Int.emod_lt_of_pos _ (by decide)) (by decide),?_⟩
    have n0:=Int.emod_nonneg ((c * c + 3 * c + 7919 * k + 1) * 48271) (show (2147483629:Int) ≠ 0 by decide)
    have n1:=Int.emod_lt_of_pos ((c * c + 3 * c + 7919 * k + 1) * 48271) (show (0:Int) < 2147483629 by decide)
    have m6:IntMulOk ((c * c + 3 * c + 7919 * k + 1) * 48271 % 2147483629) ((c * c + 3 * c + 7919 * k + 1) * 48271 % 2147483629):=Z3H (by omega) (by omega)
    unfold Z1c Z5M
    walk_at "ev"
theorem ZfP (x:Int):∃ k:Kd,atI [D.str "and",.str "or",.str "xor",.str "and",.str "or"] (x % 5)=some (.str k.s):=by
  have h0:=Int.emod_nonneg x (show (5:Int) ≠ 0 by decide)
  have h1:=Int.emod_lt_of_pos x (show (0:Int) < 5 by decide)
  generalize x % 5=y at *
  have:y=0 \/ y=1 \/ y=2 \/ y=3 \/ y=4:=by omega
  rcases this with rfl | rfl | rfl | rfl | rfl
  . exact ⟨.and,rfl⟩
  . exact ⟨.or,rfl⟩
  . exact ⟨.xor,rfl⟩
  . exact ⟨.and,rfl⟩
  . exact ⟨.or,rfl⟩
theorem ZfZ {C:Addr} {m w:Int} {nr:Bool} (hm:0 <= m) (hw:0 < w):∃ r,RowOk w r /\ Z3I C [.int m,.int w,.bl nr]=some r.d:=by
  obtain ⟨k,hk⟩:=ZfP (m % 11)
  have d1:Z2h m 11:=⟨by decide,by decide⟩
  have d2:Z2h m 1009:=⟨by decide,by decide⟩
  have d3:Z2h m 7:=⟨by decide,by decide⟩
  have d4:Z2h m 13:=⟨by decide,by decide⟩
  have d5:Z2h m 5:=⟨by decide,by decide⟩
  have q1:(0:Int) < 2:=by decide
  have q2:(0:Int) < 11:=by decide
  have q3:(0:Int) < 5:=by decide
  have e1:FMin [.int w,.int 3]=some (.int (if 3 < w then 3 else w)):=rfl
  have a0:=Int.emod_nonneg (m / 11) (show w ≠ 0 by omega)
  have a1:=Int.emod_lt_of_pos (m / 11) hw
  have b0:=Int.emod_nonneg (m / 1009) (show w ≠ 0 by omega)
  have b1:=Int.emod_lt_of_pos (m / 1009) hw
  generalize hmn:(if 3 < w then 3 else w)=mn at e1
  have q4:0 < mn:=by rw [<- hmn]; split <;> omega
  have q5:mn <= w:=by rw [<- hmn]; split <;> omega
  have c0:=Int.emod_nonneg (m / 13) (show mn ≠ 0 by omega)
  have c1:=Int.emod_lt_of_pos (m / 13) q4
  have f0:=Int.emod_nonneg (m / 5) (show (2:Int) ≠ 0 by decide)
  have f1:=Int.emod_lt_of_pos (m / 5) q1
  have key:∃ o,0 <= o /\ o < w /\ Z3I C [.int m,.int w,.bl nr]=runF 6 (fun _=>(rSeq (rSet 5 (fI2 (fun _ j=>0 < j) (fun i j=>.int (i % j)) (fVar 0) (fC (.int 11))))
    (rSeq (rIf (fEq (fVar 5) (fC (.int 0))) (rRet (fTup (Z02 (fC (.str "fix")) (Z02 (fI2 (fun _ j=>0 < j) (fun i j=>.int (i % j)) (fI2 Z2h (fun i j=>.int (i / j)) (fVar 0) (fC (.int 5))) (fC (.int 2))) fNil)))) Z11)
    (rSeq (rIf (fBI (fun i j=>decide (i < j)) (fVar 5) (fC (.int 3))) (rRet (fTup (Z02 (fC (.str "not")) (Z02 (Z0n (fVar 3)) fNil)))) Z11)
    (rRet (fTup (Z02 (Z0n (fIx (fLst (Z02 (fC (.str "and")) (Z02 (fC (.str "or")) (Z02 (fC (.str "xor")) (Z02 (fC (.str "and")) (Z02 (fC (.str "or")) fNil)))))) (fI2 (fun _ j=>0 < j) (fun i j=>.int (i % j)) (fVar 5) (fC (.int 5))))) (Z02 (Z0n (fVar 3)) (Z02 (Z0n (fVar 4)) fNil)))))))) [some (false,.int m),some (false,.int w),some (false,.bl nr),some (true,.int o),some (true,.int (m / 1009 % w)),none]) []:=by
    unfold Z3I Zba
    cases nr with
    | false =>
      refine ⟨m / 11 % w,a0,a1,?_⟩
      walk_at "ev"
    | true =>
      by_cases h:m / 7 % 2=1
      . refine ⟨w - 1 - m / 13 % mn,by omega,by omega,?_⟩
        walk_at "ev"
      . refine ⟨m / 11 % w,a0,a1,?_⟩
        walk_at "ev"
  obtain ⟨o,o0,o1,hkey⟩:=key
  rw [hkey]
  by_cases h0:m % 11=0
  . refine ⟨.fix (m / 5 % 2),by show _ \/ _; omega,?_⟩
    walk_at "ev"
    rfl
  . by_cases h1:m % 11 < 3
    . refine ⟨.not o,⟨o0,o1⟩,?_⟩
      walk_at "ev"
      rfl
    . refine ⟨.bin k o (m / 1009 % w),⟨⟨o0,o1⟩,b0,b1⟩,?_⟩
      walk_at "ev"
      rfl
theorem Z73:∀ (xs:List Int) (n:Nat),(∀ c ∈ xs,Builtin.Int.intBits c <= n) -> Builtin.Int.intBits xs.sum <= n + xs.length
  | [],n,_=>by simp [Builtin.Int.intBits]
  | x :: xs,n,h=>by
    rw [List.sum_cons]
    have h1:=h x List.mem_cons_self
    have h2:=Z73 xs n fun c hc=>h c (List.mem_cons_of_mem _ hc)
    have:=PySem.intBits_add_le h1 h2
    rw [List.length_cons]
    omega
theorem RowsOk.snoc {ins:Nat} {rows:List Row} {r:Row} (h:RowsOk ins rows) (hr:RowOk ((ins + rows.length:Nat):Int) r):RowsOk ins (rows ++ [r]):=by
  intro k r' e
  by_cases hk:k < rows.length
  . rw [List.getElem?_append_left hk] at e; exact h k r' e
  . rw [List.getElem?_append_right (by omega)] at e
    have:k - rows.length=0:=by
      by_cases z:k - rows.length=0
      . exact z
      . rw [List.getElem?_eq_none (by simp; omega)] at e; cases e
    rw [this] at e
    simp at e
    subst e
    have:k=rows.length:=by omega
    rw [this]; exact hr
theorem ZbB {cells:List Int} (hb:∀ c ∈ cells,Builtin.Int.intBits c <= 1048576):Builtin.Int.intBits ((cells.take 9).sum + 5) <= 1048700:=by
  have h1:=Z73 (cells.take 9) 1048576 fun c hc=>hb c (List.mem_of_mem_take hc)
  have h2:Builtin.Int.intBits 5 <= 64:=PySem.intBits_le_64 (by decide) (by decide)
  have h3:=PySem.intBits_add_le h1 h2
  have h4:(cells.take 9).length <= 9:=by simp; omega
  omega
theorem Z64 {C:Addr} {cells:List Int} {ins most many B:Nat} {a b c:Slot} (hb:∀ c ∈ cells,Builtin.Int.intBits c <= 1048576) (hi:ins <= 8) (hm:most <= 60) (hB:B <= 60) (hmany:many <= 15) (rows:List Row) (hr:RowsOk ins rows) (hl:rows.length <= B) (hp:0 < ins + rows.length) :
  Wp ((rSeq (rSet 8 (fI0 (fun i j=>.int (i - j)) (fI0 (fun i j=>.int (i + j)) (fVar 1) (fB1 FLen (Z02 (fVar 4) fNil))) (fC (.int 1))))
  (rSeq (rSet 9 (fLst fNil))
  (rSeq (rFor [] (sB1 Z4h (Z02 (fI0 (fun i j=>.int (i + j)) (fVar 3) (fC (.int 1))) fNil)) (gtN 5) (rSeq (rSet 7 (Z0f (Z1c C) [] (Z02 (fI0 (fun i j=>.int (i + j)) (fB1 FSum (Z02 (fSl (fVar 0) fNoP (fP (fC (.int 9)))) fNil)) (fC (.int 5))) (Z02 (fVar 5) fNil))))
  (rApp 9 (Z0n (fIx (fLst (Z02 (Z0n (fVar 8)) (Z02 (fI2 (fun _ j=>0 < j) (fun i j=>.int (i % j)) (fI2 Z2h (fun i j=>.int (i / j)) (fVar 7) (fC (.int 3))) (fI0 (fun i j=>.int (i + j)) (fVar 8) (fC (.int 1)))) fNil))) (fB1 FInt (Z02 (fOfB (fOr (fB (fI0 (fun i j=>.bl (decide (j < i))) (fI2 (fun _ j=>0 < j) (fun i j=>.int (i % j)) (fVar 7) (fC (.int 3))) (fC (.int 0)))) (fB (fI0 (fun i j=>.bl (decide (j < i))) (fVar 5) (fC (.int 0)))))) fNil)))))))
  (Zah 4 9)))) [some (false,LI cells),some (false,.int ins),some (false,.int most),some (false,.int many),some (true,.lst (rows.map Row.d)),a,b,c,none,none]) (Rt fun d=>∃ rows outs,RowsOk ins rows /\ rows.length <= B /\ 0 < ins + rows.length /\ outs.length=many + 1 /\ (∀ a ∈ outs,0 <= a /\ a < ((ins + rows.length:Nat):Int)) /\ d=.tup [.lst (rows.map Row.d),LI outs]):=by
  have el:FLen [.lst (rows.map Row.d)]=some (.int (rows.length:Int)):=by simp only [FLen,List.length_map]
  refine wSet (d:=.int ((ins:Int) + (rows.length:Int) - 1)) (by walk_at "ev") ?_
  refine wSet (d:=.lst []) (by walk_at "ev") ?_
  have er:Z4h [.int ((many:Int) + 1)]=_:=rngZ (n:=many + 1) (by omega) (by omega)
  refine wFor (ds:=(List.range (many + 1)).map fun (k:Nat)=>.int (k:Int)) ?_ (fun i env=>∃ outs a b c,outs.length=i /\ (∀ a ∈ outs,0 <= a /\ a < ((ins + rows.length:Nat):Int)) /\ env=[some (false,LI cells),some (false,.int ins),some (false,.int most),some (false,.int many),some (true,.lst (rows.map Row.d)),a,b,c,some (true,.int ((ins:Int) + (rows.length:Int) - 1)),some (true,LI outs)]) ⟨[],a,b,c,rfl,fun a h=>(by cases h),rfl⟩ ?_ ?_
  . exact Z3o (xs:=[.int ((many:Int) + 1)]) (by walk_at "ev") er
  . rintro i d env hd ⟨outs,a,b,c,ho,hall,rfl⟩
    obtain ⟨hin,rfl⟩:=Z3C hd
    have hsb:=ZbB hb
    obtain ⟨m,m0,m1,em⟩:=Z8l (C:=C) hsb (show (0:Int) <= (i:Int) by omega)
    refine ⟨_,rfl,?_⟩
    have e1:=Z2Q cells
    have e2:cutD (cells.map D.int) none (some 9)=(cells.take 9).map D.int:=by rw [List.map_take]; exact Z5j (cells.map D.int) 9
    have e3:=Zaa (cells.take 9)
    refine wSet (d:=.int m) (by simp only [LI]; walk_at "ev") ?_
    have hol:(outs.map D.int).length <= 1000:=by rw [List.length_map]; omega
    have q3:(0:Int) < 3:=by decide
    have d3:Z2h m 3:=⟨by decide,by decide⟩
    have ql:0 < (ins:Int) + (rows.length:Int) - 1 + 1:=by omega
    have z0:=Int.emod_nonneg (m / 3) (show (ins:Int) + (rows.length:Int) - 1 + 1 ≠ 0 by omega)
    have z1:=Int.emod_lt_of_pos (m / 3) ql
    have hfin:∀ v:Int,0 <= v -> v < ((ins + rows.length:Nat):Int) -> Tn (fun env=>∃ outs a b c,outs.length=i + 1 /\ (∀ a ∈ outs,0 <= a /\ a < ((ins + rows.length:Nat):Int)) /\ env=[some (false,LI cells),some (false,.int ins),some (false,.int most),some (false,.int many),some (true,.lst (rows.map Row.d)),a,b,c,some (true,.int ((ins:Int) + (rows.length:Int) - 1)),some (true,LI outs)]) (Zah 4 9) (Rt fun d=>∃ rows outs,RowsOk ins rows /\ rows.length <= 60 /\ 0 < ins + rows.length /\ outs.length=many + 1 /\ (∀ a ∈ outs,0 <= a /\ a < ((ins + rows.length:Nat):Int)) /\ d=.tup [.lst (rows.map Row.d),LI outs])
        (.next [some (false,LI cells),some (false,.int ins),some (false,.int most),some (false,.int many),some (true,.lst (rows.map Row.d)),some (false,.int i),b,some (true,.int m),some (true,.int ((ins:Int) + (rows.length:Int) - 1)),some (true,.lst (outs.map D.int ++ [.int v]))]):=by
      intro v v0 v1
      have hmem:∀ a ∈ outs ++ [v],0 <= a /\ a < ((ins + rows.length:Nat):Int):=by
        intro a ha
        rcases List.mem_append.mp ha with z | z
        . exact hall a z
        . have:a=v:=by simpa using z
          subst this; exact ⟨v0,v1⟩
      exact ⟨outs ++ [v],_,_,_,by simp [ho],hmem,by simp only [LI,List.map_append,List.map_cons,List.map_nil]; rfl⟩
    by_cases hc:0 < m % 3
    . refine Z79 (d:=.int (m / 3 % ((ins:Int) + (rows.length:Int) - 1 + 1))) (by simp only [LI]; walk_at "ev"; simp only [FInt,if_true]; walk_at "ev") rfl hol ?_
      exact hfin _ z0 (by omega)
    . by_cases hk:0 < (i:Int)
      . refine Z79 (d:=.int (m / 3 % ((ins:Int) + (rows.length:Int) - 1 + 1))) (by simp only [LI]; walk_at "ev"; simp only [FInt,if_true]; walk_at "ev") rfl hol ?_
        exact hfin _ z0 (by omega)
      . refine Z79 (d:=.int ((ins:Int) + (rows.length:Int) - 1)) (by simp only [LI]; walk_at "ev"; simp only [FInt]; walk_at "ev") rfl hol ?_
        exact hfin _ (by omega) (by omega)
  rintro env ⟨outs,a',b',c',ho,hall,rfl⟩
  refine ⟨_,rfl,rows,outs,hr,hl,hp,by simpa using ho,hall,rfl⟩
theorem Z9H {C:Addr} {cells:List Int} {ins most many B:Nat} (hb:∀ c ∈ cells,Builtin.Int.intBits c <= 1048576) (hi:ins <= 8) (hm:most <= B) (hB:B <= 60) (hB1:1 <= B) (hmany:many <= 15) :
    ∃ d,Z22 C [LI cells,.int ins,.int most,.int many]=some d /\ ∃ rows outs,RowsOk ins rows /\ rows.length <= B /\ 0 < ins + rows.length /\ outs.length=many + 1 /\ (∀ a ∈ outs,0 <= a /\ a < ((ins + rows.length:Nat):Int)) /\ d=.tup [.lst (rows.map Row.d),LI outs]:=by
  refine runW ?_
  unfold Z5N
  refine wSet (d:=.lst []) (by walk_at "ev") ?_
  refine wFor (ds:=(((cells.take most).map D.int).mapIdx fun i d=>.tup [.int i,d])) ?_ (fun i env=>∃ rows a b c,RowsOk ins rows /\ rows.length=i /\ env=[some (false,LI cells),some (false,.int ins),some (false,.int most),some (false,.int many),some (true,.lst (rows.map Row.d)),a,b,c,none,none]) ⟨[],none,none,none,fun k r e=>by simp at e,rfl,rfl⟩ ?_ ?_
  . have e1:=Z2Q cells
    have e2:=Z5j (cells.map D.int) most
    refine Z3o (xs:=[.lst ((cells.take most).map D.int)]) (by simp only [LI,List.map_take]; walk_at "ev") ?_
    simp only [Z4i]
  . rintro i d env hd ⟨rows,a,b,c,hr,rfl,rfl⟩
    obtain ⟨x,hx,rfl⟩:=Z34 hd
    obtain ⟨y,hy,rfl⟩:=Z14 hx
    have hil:rows.length < most:=by
      have:=(List.getElem?_eq_some_iff.mp hy).1
      rw [List.length_take] at this; omega
    have hyb:Builtin.Int.intBits y <= 1048700:=Nat.le_trans (hb y (List.mem_of_mem_take (List.mem_of_getElem? hy))) (by decide)
    obtain ⟨m,m0,m1,em⟩:=Z8l (C:=C) hyb (show (0:Int) <= (rows.length:Int) by omega)
    refine ⟨_,rfl,?_⟩
    refine wSet (d:=.int m) (by walk_at "ev") ?_
    have hlen:(rows.map Row.d).length <= 1000:=by rw [List.length_map]; omega
    have el:FLen [.lst (rows.map Row.d)]=some (.int (rows.length:Int)):=by simp only [FLen,List.length_map]
    have q2:(0:Int) < 2:=by decide
    by_cases hz:(ins:Int) + (rows.length:Int)=0
    . refine Z9Z (by walk_at "ev") ?_
      refine Z79 (d:=(Row.fix (m % 2)).d) (by walk_at "ev"; rfl) rfl hlen ?_
      exact ⟨rows ++ [.fix (m % 2)],_,_,_,hr.snoc (by show _ \/ _; omega),by simp,by simp only [List.map_append,List.map_cons,List.map_nil]; rfl⟩
    . refine Z84 (by walk_at "ev") ?_
      obtain ⟨r,r1,r2⟩:=ZfZ (C:=C) (nr:=decide (y % 2=0)) m0 (show 0 < (ins:Int) + (rows.length:Int) by omega)
      refine Z79 (d:=r.d) (by walk_at "ev") rfl hlen ?_
      exact ⟨rows ++ [r],_,_,_,hr.snoc (by rw [show ((ins + rows.length:Nat):Int)=(ins:Int) + (rows.length:Int) by omega]; exact r1),by simp,by simp only [List.map_append,List.map_cons,List.map_nil]; rfl⟩
  rintro env ⟨rows,a,b,c,hr,hl,rfl⟩
  rw [List.length_mapIdx,List.length_map,List.length_take] at hl
  have hl2:rows.length <= B:=by omega
  clear hl
  have key:=Z64 (C:=C) (most:=most) (B:=B) (a:=a) (b:=b) (c:=c) hb hi (Nat.le_trans hm hB) hB hmany
  have el:FLen [.lst (rows.map Row.d)]=some (.int (rows.length:Int)):=by simp only [FLen,List.length_map]
  by_cases hz:(ins:Int) + (rows.length:Int)=0
  . refine wIfT (by walk_at "ev") ?_
    refine wApp (d:=(Row.fix 1).d) (by walk_at "ev"; rfl) rfl (by rw [List.length_map]; omega) ?_
    have:=key (rows ++ [.fix 1]) (hr.snoc (show RowOk _ (.fix 1) from Or.inr rfl)) (by simp; omega) (by simp; omega)
    simpa only [List.map_append,List.map_cons,List.map_nil,List.set_cons_succ,List.set_cons_zero] using this
  . refine wNo (by walk_at "ev") ?_
    exact key rows hr (by omega) (by omega)
theorem Zeo {rows:List Row} {k:Nat} {r:Row} (h:rows[k]? = some r) {a:Int} (e:a=(k:Int)):atI (rows.map Row.d) a=some r.d:=by
  subst e
  exact Z4g (by simp [h])
theorem Zd2 {C:Addr} {ins:Nat} {rows:List Row} {w:Int} (h1:w < ((ins + rows.length:Nat):Int)):Z2G C [.int ins,.lst (rows.map Row.d),.int w]=some (LI (Z0g ins rows w)):=by
  refine Z1e ?_
  show Z6V C [some (false,.int ins),some (false,.lst (rows.map Row.d)),some (false,.int w)]=_
  unfold Z6V
  by_cases h:w < (ins:Int)
  . rw [Z2d h]
    refine sIfT (by walk_at "ev") (Z7i rfl)
  . have hk:(w - (ins:Int)).toNat < rows.length:=by omega
    have hr1:=List.getElem?_eq_getElem hk
    generalize rows[(w - (ins:Int)).toNat]=r at hr1
    have ea:=Z41 hr1 (a:=w - (ins:Int)) (by omega)
    rw [Z0Y (by omega) hr1]
    cases r with
    | fix b =>
      have e1:=s_ff
      simp only [Row.d] at ea
      exact sIfT (by walk_at "ev") (Z7i rfl)
    | not a =>
      have e1:=s_nf
      simp only [Row.d] at ea
      refine sNo (by walk_at "ev") (Z2b ?_)
      simp [ea,fSl,Z1m,PD.flat,cut1,sIx1,Z4F,LI,Row.ws]
    | bin k a b =>
      have e1:=s_kf k
      simp only [Row.d] at ea
      refine sNo (by walk_at "ev") (Z2b ?_)
      simp [ea,fSl,Z1m,PD.flat,cut1,sIx1,Z4F,LI,Row.ws]
theorem Z8R {env:En} {L:List Int} {x:Int} {k:Nat} {b:Bool} (hk:env[k]? = some (some (b,.int x))) (h3:env[3]? = some (some (true,LI L))) (hl:L.length <= 1000) :
    rIf (fNot (fIn (fVar k) (fVar 3))) (rApp 3 (Z0n (fVar k))) Z11 env=.next (env.set 3 (some (true,LI (putI L x)))):=by
  have e1:fVar k env=some (.int x):=by unfold fVar; rw [hk]; rfl
  have e2:fVar 3 env=some (LI L):=by unfold fVar; rw [h3]; rfl
  have hi:3 < env.length:=(List.getElem?_eq_some_iff.mp h3).1
  have e3:fNot (fIn (fVar k) (fVar 3)) env=some (!decide (x ∈ L)):=by
    simp only [ev_Not,ev_In,e1,e2,Z8X,Option.map_some]
  unfold putI
  by_cases h:x ∈ L
  . rw [if_pos h]
    refine rIfF (by rw [e3]; simp [h]) ?_
    show Res.next env=_
    congr 1
    apply List.ext_getElem?
    intro j
    by_cases hj:j=3
    . subst hj; rw [List.getElem?_set_self hi,h3]
    . rw [List.getElem?_set_ne (Ne.symm hj)]
  . rw [if_neg h]
    refine rIfT (by rw [e3]; simp [h]) ?_
    refine (Z3D (d:=.int x) ?_ h3 (by simpa using hl)).trans ?_
    . simp only [ev_Flat,e1,PD.flat,if_true]
    . simp only [LI,List.map_append,List.map_cons,List.map_nil]
structure Zgc (ins:Nat) (rows:List Row) (outs:List Int) (at':Nat) (L:List Int):Prop where
  nd:L.Nodup
  out:∀ a ∈ outs,a ∈ L
  cl:∀ (i:Nat) (a:Int),i < at' -> L[i]? = some a -> ∀ b ∈ Z0g ins rows a,b ∈ L
  least:∀ S:Int -> Prop,(∀ a ∈ outs,S a) -> (∀ a,S a -> ∀ b ∈ Z0g ins rows a,S b) -> ∀ a ∈ L,S a
  le:at' <= L.length
theorem Zcp {C:Addr} {ins:Nat} {rows:List Row} {outs:List Int} (hs:ins + rows.length < 64) (hl:outs.length <= 100) (hr:RowsOk ins rows) (ho:∀ a ∈ outs,0 <= a /\ a < ((ins + rows.length:Nat):Int)) :
    Z2l C [.int ins,.lst (rows.map Row.d),LI outs]=some (LI (Z0G ins rows outs)):=by
  refine runE ?_
  unfold Z6o
  refine wSet (d:=.lst []) rfl ?_
  refine Z6w (ds:=outs.map D.int) rfl (fun i env=>∃ a,env=[some (false,.int ins),some (false,.lst (rows.map Row.d)),some (false,LI outs),some (true,LI (Z1j [] (outs.take i))),a,none,none]) ⟨none,rfl⟩ ?_ ?_
  . rintro i d env R hd ⟨a,rfl⟩ hR
    obtain ⟨x,hx,rfl⟩:=Z14 hd
    refine ⟨_,rfl,?_⟩
    have hlen:(Z1j [] (outs.take i)).length <= 1000:=by
      have:=Z38 (xs:=outs.take i) (ks:=[])
      rw [List.length_take,List.length_nil] at this
      omega
    refine wEq (Z8R (L:=Z1j [] (outs.take i)) (x:=x) (b:=false) rfl rfl hlen) (hR _ ⟨some (false,.int x),?_⟩)
    rw [Z3l hx]
    rfl
  rintro env ⟨a,rfl⟩
  rw [List.length_map,List.take_length]
  refine wSet (d:=.int 0) rfl ?_
  refine ZcO (m:=ins + rows.length) (fun m env=>∃ L at' a b,Zgc ins rows outs at' L /\ m + at'=ins + rows.length /\ env=[some (false,.int ins),some (false,.lst (rows.map Row.d)),some (false,LI outs),some (true,LI L),a,some (true,.int (at':Nat)),b])
    ⟨Z1j [] outs,0,a,none,⟨Z2r List.nodup_nil,fun a ha=>mem_addAll.mpr (.inr ha),fun i a h=>(by omega),fun S h1 _ a ha=>h1 a ((mem_addAll.mp ha).elim (fun z=>(by cases z)) id),Nat.zero_le _⟩,by omega,rfl⟩ ?_
  rintro m env ⟨L,at',a,b,hW,hm,rfl⟩
  have hbd:∀ a ∈ L,0 <= a /\ a < ((ins + rows.length:Nat):Int):=hW.least _ ho fun a ha b hb=>by have:=Z1K hr hb; omega
  have hLl:=Z2K _ _ hW.nd hbd
  have el:FLen [.lst (L.map D.int)]=some (.int (L.length:Int)):=by simp only [FLen,List.length_map]
  by_cases hend:at' < L.length
  . right
    have hg:=List.getElem?_eq_getElem hend
    generalize hx:L[at']=x at hg
    have hxb:=hbd x (List.mem_of_getElem? hg)
    have lg:=Zd2 (C:=C) (ins:=ins) (rows:=rows) (w:=x) hxb.2
    have hll:=Z36 (ins:=ins) (rows:=rows) (w:=x)
    have ci:(at':Int) < (L.length:Int):=by omega
    have ea:atI (L.map D.int) (at':Int)=some (.int x):=by
      rw [Z2S (by omega) ci]
      exact congrArg (fun z=>some (D.int z)) (Z1A hg rfl)
    refine ⟨by simp only [LI]; clear lg hW hbd hr ho; walk_at "ev",?_⟩
    refine Z6w (ds:=(Z0g ins rows x).map D.int) ?_ (fun j env=>∃ b,env=[some (false,.int ins),some (false,.lst (rows.map Row.d)),some (false,LI outs),some (true,LI (Z1j L ((Z0g ins rows x).take j))),a,some (true,.int (at':Nat)),b]) ⟨b,rfl⟩ ?_ ?_
    . refine Z0V (Z0e (xs:=[.int ins,.lst (rows.map Row.d),.int x]) ?_ lg)
      simp only [LI]
      clear lg hW hbd hr ho
      walk_at "ev"
    . rintro j d env R hd ⟨b,rfl⟩ hR
      obtain ⟨y,hy,rfl⟩:=Z14 hd
      refine ⟨_,rfl,?_⟩
      have hlen:(Z1j L ((Z0g ins rows x).take j)).length <= 1000:=by
        have:=Z38 (xs:=(Z0g ins rows x).take j) (ks:=L)
        rw [List.length_take] at this
        omega
      refine wEq (Z8R (L:=Z1j L ((Z0g ins rows x).take j)) (x:=y) (b:=false) rfl rfl hlen) (hR _ ⟨some (false,.int y),?_⟩)
      rw [Z3l hy]
      rfl
    . rintro env ⟨b,rfl⟩
      rw [List.length_map,List.take_length]
      refine Zde (d:=.int ((at' + 1:Nat):Int)) (by rw [show ((at' + 1:Nat):Int)=(at':Int) + 1 by omega]; rfl) ?_
      obtain ⟨t,ht⟩:=Z6u (xs:=Z0g ins rows x) (ks:=L)
      refine ⟨m - 1,by omega,Z1j L (Z0g ins rows x),at' + 1,a,b,⟨Z2r hW.nd,fun a ha=>mem_addAll.mpr (.inl (hW.out a ha)),fun i c hi hc d hd=>?_,fun S s1 s2 c hc=>?_,?_⟩,by omega,rfl⟩
      . have hil:i < L.length:=by omega
        rw [ht,List.getElem?_append_left hil] at hc
        by_cases hie:i=at'
        . subst hie
          rw [hg] at hc
          cases hc
          exact mem_addAll.mpr (.inr hd)
        . exact mem_addAll.mpr (.inl (hW.cl i c (by omega) hc d hd))
      . rcases mem_addAll.mp hc with z | z
        . exact hW.least S s1 s2 c z
        . exact s2 x (hW.least S s1 s2 x (List.mem_of_getElem? hg)) c z
      . rw [ht,List.length_append]; omega
  . left
    have ci:¬ (at':Int) < (L.length:Int):=by omega
    refine ⟨by simp only [LI]; clear hW hbd hr ho; walk_at "ev",?_⟩
    have hN:NeedL ins rows outs L:=⟨hW.nd,hW.out,fun c hc d hd=>by
      obtain ⟨i,hi⟩:=List.getElem?_of_mem hc
      have:=(List.getElem?_eq_some_iff.mp hi).1
      exact hW.cl i c (by omega) hi d hd,hW.least⟩
    have hsrt:Z0G ins rows outs=srtI L:=(Z2o hr ho).sort hN
    refine wRet (d:=LI (Z0G ins rows outs)) (Z2i (xs:=[LI L]) rfl ?_) rfl
    unfold Z75 LI
    simp only [Z5H]
    rw [if_pos (by omega),hsrt]
theorem Z7F {C:Addr} {ins:Nat} {rows:List Row} {w:Int} (h1:w < ((ins + rows.length:Nat):Int)):Z1g C [.int ins,.lst (rows.map Row.d),.int w]=some (LI (Z1n ins rows w)):=by
  refine Z1e ?_
  show Z4e C [some (false,.int ins),some (false,.lst (rows.map Row.d)),some (false,.int w)]=_
  unfold Z4e Z1n
  by_cases h:w < (ins:Int)
  . have h':¬ (ins:Int) <= w:=by omega
    rw [if_pos h]
    exact sNo (by walk_at "ev") rfl
  . have h':(ins:Int) <= w:=by omega
    have hk:(w - (ins:Int)).toNat < rows.length:=by omega
    have hr1:=List.getElem?_eq_getElem hk
    generalize rows[(w - (ins:Int)).toNat]=r at hr1
    have ea:=Z41 hr1 (a:=w - (ins:Int)) (by omega)
    rw [if_neg h,hr1]
    cases r with
    | fix b =>
      have e1:=s_ff
      simp only [Row.d] at ea
      refine sIfT (by walk_at "ev") (Z7i ?_)
      simp only [LI,List.map_cons,List.map_nil]
      walk_at "ev"
    | not a =>
      have e1:=s_nf
      simp only [Row.d] at ea
      exact sNo (by walk_at "ev") rfl
    | bin k a b =>
      have e1:=s_kf k
      simp only [Row.d] at ea
      exact sNo (by walk_at "ev") rfl
theorem Z7N (fs:List Flt):Z1m (fs.map Flt.d)=true:=Z37 fun d hd=>by
  obtain ⟨f,_,rfl⟩:=List.mem_map.mp hd; exact Z96 f
theorem Z6b {i j:Nat} {f:En -> Option D} {env:En} {xs ys:List D} (e1:env[j]? = some (some (true,.lst xs))) (e2:f env=some (.lst ys)) (h1:Z1m xs=true) (h2:xs.length + ys.length <= 1000):Z48 i j f env=.next (env.set i (some (true,.lst (xs ++ ys)))):=by
  unfold Z48; simp only [e1,e2,h1,h2,and_self,if_true]
theorem Zcq {C:Addr} {ins:Nat} {rows:List Row} {outs N:List Int} (hr:RowsOk ins rows) (nb:∀ a ∈ N,0 <= a /\ a < ((ins + rows.length:Nat):Int)) (nl:N.length < 64) (ln:Z2l C [.int ins,.lst (rows.map Row.d),LI outs]=some (LI N)) :
    Z2m C [.int ins,.lst (rows.map Row.d),LI outs]=some (.lst ((N.flatMap (Z0K ins rows)).map Flt.d)):=by
  refine Z1e ?_
  unfold Z6p
  refine sSet (d:=.lst []) rfl ?_
  refine Z63 (ds:=N.map D.int) (Z0V (Z0e (xs:=[.int ins,.lst (rows.map Row.d),LI outs]) rfl ln))
    (fun i env=>∃ a b c,env=[some (false,.int ins),some (false,.lst (rows.map Row.d)),some (false,LI outs),some (true,.lst (((N.take i).flatMap (Z0K ins rows)).map Flt.d)),a,b,c]) ⟨none,none,none,rfl⟩ ?_ ?_
  . rintro i d env hd ⟨a,b,c,rfl⟩
    obtain ⟨w,hw,rfl⟩:=Z14 hd
    have hwb:=nb w (List.mem_of_getElem? hw)
    have hil:i < N.length:=(List.getElem?_eq_some_iff.mp hw).1
    have fl:=Z6W (ins:=ins) (rows:=rows) (N.take i)
    rw [List.length_take] at fl
    rw [Z7O hw]
    generalize hB:(N.take i).flatMap (Z0K ins rows)=B at *
    have hBl:(B.map Flt.d).length <= 400:=by rw [List.length_map]; omega
    have hbl:=Z2n (ins:=ins) (rows:=rows) (w:=w)
    have hll:=Z36 (ins:=ins) (rows:=rows) (w:=w)
    have bw:=Z7F (C:=C) (ins:=ins) (rows:=rows) (w:=w) hwb.2
    have lw:=Zd2 (C:=C) (ins:=ins) (rows:=rows) (w:=w) hwb.2
    have c1:Z1E [4] (fSeq (Z0f (Z1g C) [] (Z02 (fVar 0) (Z02 (fVar 1) (Z02 (fVar 4) fNil))))) fTT (fTup (Z02 (fC (.str "wire")) (Z02 (Z0n (fVar 1)) (Z02 (Z0n (fVar 0)) fNil)))) [some (false,.int ins),some (false,.lst (rows.map Row.d)),some (false,LI outs),some (true,.lst (B.map Flt.d)),some (false,.int w),b,c]=some (.lst (((Z1n ins rows w).map fun b=>Flt.wire w b).map Flt.d)):=by
      rw [Z1y D.int (fun b=>(Flt.wire w b).d) (xs:=Z1n ins rows w) (Z0V (Z0e (xs:=[.int ins,.lst (rows.map Row.d),.int w]) rfl bw)) (by omega) (fun x _=>rfl),List.map_map]
      rfl
    have h1:=Z6b (i:=3) (j:=3) (env:=[some (false,.int ins),some (false,.lst (rows.map Row.d)),some (false,LI outs),some (true,.lst (B.map Flt.d)),some (false,.int w),b,c]) rfl c1 (Z7N B) (by simp only [List.length_map] at *; omega)
    rw [<- List.map_append] at h1
    generalize hB2:B ++ (Z1n ins rows w).map (fun b=>Flt.wire w b)=B2 at *
    have hB2l:(B2.map Flt.d).length <= 410:=by rw [<- hB2,List.length_map,List.length_append,List.length_map]; rw [List.length_map] at hBl; omega
    obtain ⟨env',h2,⟨x,y,rfl⟩⟩:=Zaj (rs:=[]) (src:=sB1 Z4i (Z02 (Z0f (Z2G C) [] (Z02 (fVar 0) (Z02 (fVar 1) (Z02 (fVar 4) fNil)))) fNil)) (t:=gtT [5,6]) (g:=Z48 3 3 (Z1E [4,5] (fSeq (Z0f (Z1g C) [] (Z02 (fVar 0) (Z02 (fVar 1) (Z02 (fVar 6) fNil))))) fTT (fTup (Z02 (fC (.str "leg")) (Z02 (Z0n (fVar 1)) (Z02 (Z0n (fVar 2)) (Z02 (Z0n (fVar 0)) fNil)))))))
      (env:=[some (false,.int ins),some (false,.lst (rows.map Row.d)),some (false,LI outs),some (true,.lst (B2.map Flt.d)),some (false,.int w),b,c]) (ds:=((Z0g ins rows w).map D.int).mapIdx fun i d=>.tup [.int i,d]) (Z3o (xs:=[LI (Z0g ins rows w)]) (Z0d (Z0e (xs:=[.int ins,.lst (rows.map Row.d),.int w]) rfl lw) rfl) (by simp only [Z4i,LI]))
      (fun j env=>∃ x y,env=[some (false,.int ins),some (false,.lst (rows.map Row.d)),some (false,LI outs),some (true,.lst ((B2 ++ Z0F ins rows w 0 ((Z0g ins rows w).take j)).map Flt.d)),some (false,.int w),x,y]) ⟨b,c,by simp [PD.fz,Z0F]⟩ (by
        rintro j d env hd ⟨x,y,rfl⟩
        obtain ⟨e,he,rfl⟩:=Z34 hd
        obtain ⟨a',ha,rfl⟩:=Z14 he
        have hab:=Z1K hr (List.mem_of_getElem? ha)
        have ba:=Z7F (C:=C) (ins:=ins) (rows:=rows) (w:=a') (by omega)
        have hbl2:=Z2n (ins:=ins) (rows:=rows) (w:=a')
        have hfl:=Z2H (ins:=ins) (rows:=rows) (w:=w) ((Z0g ins rows w).take j) 0
        rw [List.length_take] at hfl
        rw [Z43 ha,<- List.append_assoc]
        generalize hB3:B2 ++ Z0F ins rows w 0 ((Z0g ins rows w).take j)=B3 at *
        have hB3l:(B3.map Flt.d).length <= 450:=by rw [<- hB3,List.length_map,List.length_append]; rw [List.length_map] at hB2l; omega
        have c2:Z1E [4,5] (fSeq (Z0f (Z1g C) [] (Z02 (fVar 0) (Z02 (fVar 1) (Z02 (fVar 6) fNil))))) fTT (fTup (Z02 (fC (.str "leg")) (Z02 (Z0n (fVar 1)) (Z02 (Z0n (fVar 2)) (Z02 (Z0n (fVar 0)) fNil))))) [some (false,.int ins),some (false,.lst (rows.map Row.d)),some (false,LI outs),some (true,.lst (B3.map Flt.d)),some (false,.int w),some (false,.int (j:Nat)),some (false,.int a')]=some (.lst (((Z1n ins rows a').map fun b=>Flt.leg w (j:Int) b).map Flt.d)):=by
          rw [Z1y D.int (fun b=>(Flt.leg w (j:Int) b).d) (xs:=Z1n ins rows a') (Z0V (Z0e (xs:=[.int ins,.lst (rows.map Row.d),.int a']) rfl ba)) (by omega) (fun x _=>rfl),List.map_map]
          rfl
        have h3:=Z6b (i:=3) (j:=3) (env:=[some (false,.int ins),some (false,.lst (rows.map Row.d)),some (false,LI outs),some (true,.lst (B3.map Flt.d)),some (false,.int w),some (false,.int (j:Nat)),some (false,.int a')]) rfl c2 (Z7N B3) (by simp only [List.length_map] at *; omega)
        rw [<- List.map_append] at h3
        exact ⟨_,_,rfl,h3,some (false,.int j),some (false,.int a'),rfl⟩)
    rw [List.length_mapIdx,List.length_map,List.take_length] at h2
    refine ⟨_,_,rfl,seqN h1 h2,some (false,.int w),x,y,?_⟩
    unfold Z0K
    rw [<- hB2,List.append_assoc]
  . rintro env ⟨a,b,c,rfl⟩
    rw [List.length_map,List.take_length]
    rfl
theorem Zf7 {w w' l l' b:Int}:eqN 8 (.tup [.str "leg",.int w',.int l',.int b]) (.tup [.str "leg",.int w,.int l,.int b])=some (decide (w'=w /\ l'=l)):=by
  have e1:=s_ll
  by_cases h1:w'=w
  . by_cases h2:l'=l
    . subst h1; subst h2; walk_at "ev"
    . subst h1; walk_at "ev"; simp
  . walk_at "ev"; try simp [h1]
theorem Zdc {w w' l b b':Int}:eqN 8 (.tup [.str "wire",.int w',.int b]) (.tup [.str "leg",.int w,.int l,.int b'])=some false:=by
  have e1:=s_wl
  walk_at "ev"
  try simp
theorem ZaX {C:Addr} {n:Nat} {r:Row} {w l:Int} {vs:List Int} {f:Flt} (hl:l=0 /\ 0 < r.ws.length \/ l=1 /\ 1 < r.ws.length) (hw:∀ a ∈ r.ws,0 <= a /\ a < vs.length) (hb:∀ w l b,f=.leg w l b -> b=0 \/ b=1) :
    Z3h C [LI vs,r.d,.int w,.int l,f.d,.int (Z09 n)]=some (.int (legO r w l vs (Z09 n) f)):=by
  have key:Z0n (fIx (fVar 0) (fIx (fVar 1) (fI0 (fun i j=>.int (i + j)) (fC (.int 1)) (fVar 3)))) [some (false,LI vs),some (false,r.d),some (false,.int w),some (false,.int l),some (false,f.d),some (false,.int (Z09 n))]=some (.int (nth vs (nth r.ws l))):=by
    cases r with
    | fix b=>simp [Row.ws] at hl
    | not a =>
      rcases hl with ⟨rfl,_⟩ | ⟨_,h⟩
      . have ha:=hw a (by simp [Row.ws])
        have ea:=Z2S ha.1 ha.2
        have en:nth (Row.not a).ws 0=a:=rfl
        simp only [LI,Row.d]
        walk_at "ev"
      . simp [Row.ws] at h
    | bin k a b =>
      rcases hl with ⟨rfl,_⟩ | ⟨rfl,_⟩
      . have ha:=hw a (by simp [Row.ws])
        have ea:=Z2S ha.1 ha.2
        have en:nth (Row.bin k a b).ws 0=a:=rfl
        simp only [LI,Row.d]
        walk_at "ev"
      . have ha:=hw b (by simp [Row.ws])
        have ea:=Z2S ha.1 ha.2
        have en:nth (Row.bin k a b).ws 1=b:=rfl
        simp only [LI,Row.d]
        walk_at "ev"
  refine Z1e ?_
  unfold Z91
  cases f with
  | none =>
    refine sNo ?_ (Z2b key)
    simp only [Flt.d]
    rfl
  | wire w' b =>
    have e1:=Zdc (w:=w) (w':=w') (l:=l) (b:=b) (b':=b)
    refine sNo ?_ (Z2b key)
    simp only [Flt.d,enStart,List.map_cons,List.map_nil,List.length_cons,List.length_nil,List.replicate,List.append_nil,ev_And,ev_IsN,ev_Eq,ev_var,ev_Tup,ev_Cons,ev_C,ev_Nil,ev_Ix,List.getElem?_cons_zero,List.getElem?_cons_succ,Option.join_some,Option.map_some,atI_m3]
    exact e1
  | leg w' l' b =>
    have e1:=Zf7 (w:=w) (w':=w') (l:=l) (l':=l') (b:=b)
    have e2:fAnd (fIsN true (fVar 4)) (fEq (fVar 4) (fTup (Z02 (fC (.str "leg")) (Z02 (fVar 2) (Z02 (fVar 3) (Z02 (fIx (fVar 4) (fC (.int (-1)))) fNil)))))) [some (false,LI vs),some (false,r.d),some (false,.int w),some (false,.int l),some (false,(Flt.leg w' l' b).d),some (false,.int (Z09 n))]=some (decide (w'=w /\ l'=l)):=by
      simp only [Flt.d,ev_And,ev_IsN,ev_Eq,ev_var,ev_Tup,ev_Cons,ev_C,ev_Nil,ev_Ix,List.getElem?_cons_zero,List.getElem?_cons_succ,Option.join_some,Option.map_some,atI_m4]
      exact e1
    by_cases h:w'=w /\ l'=l
    . rw [decide_eq_true h] at e2
      have mo:IntMulOk b (Z09 n):=by rcases hb _ _ _ rfl with z | z <;> (subst z; exact Z3H (by decide) (by decide))
      refine sIfT e2 (Z7i ?_)
      simp only [legO,if_pos h,Flt.d,Int.mul_comm (Z09 n) b]
      clear e1 e2 key
      walk_at "ev"
    . rw [decide_eq_false h] at e2
      refine sNo e2 ?_
      simp only [legO,if_neg h]
      exact Z2b key
theorem Zcr {C:Addr} {n:Nat} {r:Row} {w k:Int} {vs:List Int} {f:Flt} (hr:RowOk k r) (hn:k <= vs.length) (hv:∀ a,IsT n (nth vs a)) (hb:∀ w l b,f=.leg w l b -> b=0 \/ b=1) (hf:∀ w' l' b,f=.leg w' l' b -> w'=w -> 0 <= l' /\ l' < r.ws.length) :
    Z1R C [LI vs,r.d,.int w,f.d,.int (Z09 n)]=some (.int (gate r (legs r w vs (Z09 n) f) (Z09 n))):=by
  have hw:∀ a ∈ r.ws,0 <= a /\ a < vs.length:=fun a ha=>by have:=hr.ws a ha; omega
  cases r with
  | fix b =>
    have e1:=s_ff
    have mo:IntMulOk b (Z09 n):=by rcases (show b=0 \/ b=1 from hr) with z | z <;> (subst z; exact Z3H (by decide) (by decide))
    unfold Z1R Z3Y
    simp only [Row.d,gate,Int.mul_comm (Z09 n) b]
    clear hv hb hf hw hr
    walk_at "ev"
  | not a =>
    have h0:=ZaX (C:=C) (n:=n) (w:=w) (l:=0) (f:=f) (.inl ⟨rfl,by simp [Row.ws]⟩) hw hb
    have k0:=Z5D (w:=w) (l:=0) (o:=Z09 n) (vs:=vs) (.inl ⟨rfl,by simp [Row.ws]⟩) hf
    have e1:=s_nf
    have e2:=s_nn
    have g1:=Ze9 (Zcm (r:=.not a) (w:=w) (l:=0) hv hb)
    have g2:gate (.not a) (legs (.not a) w vs (Z09 n) f) (Z09 n)=Z09 n - legO (.not a) w 0 vs (Z09 n) f:=by rw [<- g1,<- k0]; rfl
    rw [g2]
    generalize legO (Row.not a) w 0 vs (Z09 n) f=x at *
    unfold Z1R Z3Y
    simp only [Row.d] at h0 ⊢
    clear g1 g2 k0 hf hb hv hr hw
    walk_at "ev"
  | bin kd a b =>
    have h0:=ZaX (C:=C) (n:=n) (w:=w) (l:=0) (f:=f) (.inl ⟨rfl,by simp [Row.ws]⟩) hw hb
    have k0:=Z5D (w:=w) (l:=0) (o:=Z09 n) (vs:=vs) (.inl ⟨rfl,by simp [Row.ws]⟩) hf
    have h1:=ZaX (C:=C) (n:=n) (w:=w) (l:=1) (f:=f) (.inr ⟨rfl,by simp [Row.ws]⟩) hw hb
    have k1:=Z5D (w:=w) (l:=1) (o:=Z09 n) (vs:=vs) (.inr ⟨rfl,by simp [Row.ws]⟩) hf
    have e1:=s_kf kd
    have e2:=s_kn kd
    have e3:=s_ka kd
    have e4:=s_ko kd
    have g:gate (.bin kd a b) (legs (.bin kd a b) w vs (Z09 n) f) (Z09 n)=kdT kd (legO (.bin kd a b) w 0 vs (Z09 n) f) (legO (.bin kd a b) w 1 vs (Z09 n) f):=by
      rw [<- k0,<- k1]
      cases kd <;> rfl
    rw [g]
    clear g k0 k1 hf hb hv hr hw
    generalize legO (Row.bin kd a b) w 0 vs (Z09 n) f=x at *
    generalize legO (Row.bin kd a b) w 1 vs (Z09 n) f=y at *
    unfold Z1R Z3Y
    simp only [Row.d] at h0 h1 ⊢
    cases kd with
    | and=>walk_at "ev"; rfl
    | or=>walk_at "ev"; rfl
    | xor=>walk_at "ev"; rfl
theorem Z5g {C:Addr} {ins:Nat} {rows:List Row} {f:Flt} (hi:ins <= 8) (hs:ins + rows.length <= 1000) (hr:RowsOk ins rows) (hf:FltOk ins rows f) :
    Z0U C [.int ins,.lst (rows.map Row.d),f.d]=some (LI (Z03 ins rows f)):=by
  have hN:=Z0Z ins rows f
  have hbt:=Z20 hr hf
  obtain ⟨pb0,pb1⟩:=Z8a hi
  have pbn:2 ^ ins <= 256:=Int.ofNat_le.mp pb1
  have p1:CShl 1 (ins:Int):=Z70 (by omega) (by omega)
  have p2:CShl 1 ((1:Int) * 2 ^ (ins:Int).toNat):=by rw [Z3Q]; exact Z70 pb0 (Int.le_trans pb1 (by decide))
  have ep:(1:Int) * 2 ^ ((1:Int) * 2 ^ (ins:Int).toNat).toNat - 1=Z09 (2 ^ ins):=by rw [Z3Q]; exact Zbi ins
  refine Z1e ?_
  unfold Z6n
  have el:FLen [.lst (rows.map Row.d)]=some (.int (rows.length:Int)):=by simp only [FLen,List.length_map]
  refine sSet (d:=.int (Z09 (2 ^ ins))) (by clear hbt pb0 pb1 pbn hN hi hs hr hf; walk_at "ev") ?_
  refine sSet (d:=.lst []) (by walk_at "ev") ?_
  refine Z63 (ds:=(List.range (ins + rows.length)).map fun (k:Nat)=>.int (k:Int)) (Z3o (xs:=[.int ((ins:Int) + (rows.length:Int))]) (by clear hbt pb0 pb1 pbn hN hi hs hr hf p1 p2 ep; walk_at "ev") (rngZ (by omega) hs))
    (fun i env=>∃ s,env=[some (false,.int ins),some (false,.lst (rows.map Row.d)),some (false,f.d),some (true,.int (Z09 (2 ^ ins))),some (true,LI ((Z03 ins rows f).take i)),s]) ⟨none,rfl⟩ ?_ ?_
  . rintro i d env hd ⟨s,rfl⟩
    obtain ⟨hin,rfl⟩:=Z3C hd
    have hil:i < (Z03 ins rows f).length:=by omega
    have htl:((Z03 ins rows f).take i).length=i:=by rw [List.length_take]; omega
    have cont:∀ v,(Z03 ins rows f)[i]? = some (Z0y v i (Z09 (2 ^ ins)) f) -> rIf (fAnd (fIsN true (fVar 2)) (fAnd (fEq (fIx (fVar 2) (fC (.int 0))) (fC (.str "wire"))) (fEq (fIx (fVar 2) (fC (.int 1))) (fVar 5)))) (rPut 4 (fVar 5) (fI2 IntMulOk (fun i j=>.int (i * j)) (fIx (fVar 2) (fC (.int 2))) (fVar 3))) Z11
        [some (false,.int ins),some (false,.lst (rows.map Row.d)),some (false,f.d),some (true,.int (Z09 (2 ^ ins))),some (true,.lst (((Z03 ins rows f).take i).map D.int ++ [.int v])),some (false,.int i)] =
        .next [some (false,.int ins),some (false,.lst (rows.map Row.d)),some (false,f.d),some (true,.int (Z09 (2 ^ ins))),some (true,LI ((Z03 ins rows f).take (i + 1))),some (false,.int i)]:=by
      intro v hv
      rw [Z0v hv]
      generalize (Z03 ins rows f).take i=vs at *
      cases f with
      | none=>simp only [Flt.d,Z0y,LI,List.map_append,List.map_cons,List.map_nil]; rfl
      | leg w l b =>
        have e1:=s_lw
        simp only [Flt.d,Z0y,LI,List.map_append,List.map_cons,List.map_nil]
        clear hbt pb0 pb1 pbn hN hi hs hr hf p1 p2 ep hv hil hd
        walk_at "ev"
      | wire w b =>
        have e1:=s_ww
        by_cases hw:w=(i:Int)
        . have e2:Z1m (vs.map D.int ++ [.int v])=true:=by have:=Z2Q (vs ++ [v]); simpa using this
          have e3:(vs.map D.int ++ [D.int v]).set i (.int (b * Z09 (2 ^ ins)))=vs.map D.int ++ [.int (b * Z09 (2 ^ ins))]:=by
            rw [List.set_append]; simp [htl]
          have e4:ixN (vs.map D.int ++ [D.int v]).length (i:Int)=some i:=by
            rw [Zd3 (by omega) (by simp; omega)]; simp
          have mo:IntMulOk b (Z09 (2 ^ ins)):=by rcases hf.w _ _ rfl with z | z <;> (subst z; exact Z3H (by decide) (by decide))
          refine rIfT (by simp only [Flt.d]; clear hbt pb0 pb1 pbn hN hi hs hr hf p1 p2 ep hv hil hd; walk_at "ev") ?_
          simp only [Z0y,hw,if_true,LI,List.map_append,List.map_cons,List.map_nil,Int.mul_comm (Z09 (2 ^ ins)) b]
          unfold rPut
          simp only [Flt.d,ev_Ix,ev_var,ev_C,ev_I2',mo,List.getElem?_cons_zero,List.getElem?_cons_succ,Option.join_some,Option.map_some,atI_2,e4,e2,PD.flat,and_self,if_true,e3,List.set_cons_succ,List.set_cons_zero]
        . simp only [Flt.d,Z0y,hw,if_false,LI,List.map_append,List.map_cons,List.map_nil]
          clear hbt pb0 pb1 pbn hN hi hs hr hf p1 p2 ep hv hil hd
          walk_at "ev"
    have hol:(((Z03 ins rows f).take i).map D.int).length <= 1000:=by rw [List.length_map]; omega
    by_cases h1:i < ins
    . have c1:(i:Int) < (ins:Int):=by omega
      have hv:=Z24 (rows:=rows) (f:=f) h1
      have esum:fB1 FSum (Z02 (Z1E [5] (sB1 Z4h (Z02 (fI2 CShl (fun i j=>.int (i * 2 ^ j.toNat)) (fC (.int 1)) (fVar 0)) fNil)) (fEq (fI2 (fun _ j=>0 < j) (fun i j=>.int (i % j)) (fI2 Z2h (fun i j=>.int (i / j)) (fVar 0) (fI2 CShl (fun i j=>.int (i * 2 ^ j.toNat)) (fC (.int 1)) (fVar 1))) (fC (.int 2))) (fC (.int 1))) (fI2 CShl (fun i j=>.int (i * 2 ^ j.toNat)) (fC (.int 1)) (fVar 0))) fNil)
          [some (false,.int ins),some (false,.lst (rows.map Row.d)),some (false,f.d),some (true,.int (Z09 (2 ^ ins))),some (true,LI ((Z03 ins rows f).take i)),some (false,.int i)]=some (.int (tab (2 ^ ins) fun g=>decide (g / 2 ^ i % 2=1))):=by
        have ec:=Z7Q (fr:=[5]) (fc:=fEq (fI2 (fun _ j=>0 < j) (fun i j=>.int (i % j)) (fI2 Z2h (fun i j=>.int (i / j)) (fVar 0) (fI2 CShl (fun i j=>.int (i * 2 ^ j.toNat)) (fC (.int 1)) (fVar 1))) (fC (.int 2))) (fC (.int 1))) (fe:=fI2 CShl (fun i j=>.int (i * 2 ^ j.toNat)) (fC (.int 1)) (fVar 0))
          (src:=sB1 Z4h (Z02 (fI2 CShl (fun i j=>.int (i * 2 ^ j.toNat)) (fC (.int 1)) (fVar 0)) fNil)) (env:=[some (false,.int ins),some (false,.lst (rows.map Row.d)),some (false,f.d),some (true,.int (Z09 (2 ^ ins))),some (true,LI ((Z03 ins rows f).take i)),some (false,.int i)])
          (fun (k:Nat)=>D.int (k:Int)) (fun (k:Nat)=>D.int ((1:Int) * 2 ^ (k:Int).toNat)) (fun g=>decide (g / 2 ^ i % 2=1)) (xs:=List.range (2 ^ ins))
          (Z3o (xs:=[.int ((1:Int) * 2 ^ (ins:Int).toNat)]) (by clear hbt pb0 pb1 pbn hN hi hs hr hf p2 ep hv hil hd cont hol htl; walk_at "ev") (rngZ (Z3Q ins) (by omega))) (by rw [List.length_range]; omega) ?_ ?_
        . refine Z2i (Z0d ec rfl) ?_
          have e9:(((List.range (2 ^ ins)).filter fun g=>decide (g / 2 ^ i % 2=1)).map fun (k:Nat)=>D.int ((1:Int) * 2 ^ (k:Int).toNat))=((((List.range (2 ^ ins)).filter fun g=>decide (g / 2 ^ i % 2=1)).map fun (k:Nat)=>((1:Int) * 2 ^ (k:Int).toNat)).map D.int):=by rw [List.map_map]; rfl
          rw [e9,Zaa,Za9]
        . intro g hg
          have hg':=List.mem_range.mp hg
          have p3:CShl 1 (i:Int):=Z70 (by omega) (by omega)
          have d1:Z2h (g:Int) ((1:Int) * 2 ^ (i:Int).toNat):=Z9c (by omega)
          have q2:(0:Int) < 2:=by decide
          have ee:((g:Int) / ((1:Int) * 2 ^ (i:Int).toNat) % 2=1)=(g / 2 ^ i % 2=1):=by
            rw [Z3Q]
            apply propext
            constructor
            . intro z; exact Int.ofNat.inj (by simpa using z)
            . intro z; have:=congrArg (fun (n:Nat)=>(n:Int)) z; simpa using this
          show fEq _ (fC (.int 1)) [some (false,.int (g:Int)),some (false,.int (i:Int))]=_
          clear hbt pb0 pb1 pbn hN hi hs hr hf p1 p2 ep hv hil hd cont hol htl
          walk_at "ev"
        . intro g hg _
          have hg':=List.mem_range.mp hg
          have p3:CShl 1 (g:Int):=Z70 (by omega) (by omega)
          show fI2 CShl _ (fC (.int 1)) (fVar 0) [some (false,.int (g:Int)),some (false,.int (i:Int))]=_
          clear hbt pb0 pb1 pbn hN hi hs hr hf p1 p2 ep hv hil hd cont hol htl
          walk_at "ev"
      refine ⟨_,_,rfl,seqN (rIfT ?_ (Z3D esum rfl hol)) (cont _ hv),some (false,.int i),rfl⟩
      clear hbt pb0 pb1 pbn hN hi hs hr hf p1 p2 ep hv hil hd cont hol htl esum
      walk_at "ev"
    . have c1:¬ (i:Int) < (ins:Int):=by omega
      have hk:i - ins < rows.length:=by omega
      have hr1:=List.getElem?_eq_getElem hk
      generalize rows[i - ins]=r at hr1
      have hv:=Z5m (ins:=ins) (f:=f) hr1
      rw [show ins + (i - ins)=i by omega] at hv
      have hrow:=hr _ r hr1
      rw [show ins + (i - ins)=i by omega] at hrow
      have ea:=Zeo hr1 (a:=(i:Int) - (ins:Int)) (by omega)
      have eg:=Zcr (C:=C) (n:=2 ^ ins) (w:=(i:Int)) (vs:=(Z03 ins rows f).take i) (f:=f) hrow (by rw [htl]; omega) (fun a=>?_) hf.l (fun w' l' b e hw=>hf.leg w' l' b (i - ins) r e hr1 (by rw [hw]; omega))
      . refine ⟨_,_,rfl,seqN (rIfF ?_ (Z3D (d:=.int (gate r (legs r i ((Z03 ins rows f).take i) (Z09 (2 ^ ins)) f) (Z09 (2 ^ ins)))) ?_ rfl hol)) (cont _ hv),some (false,.int i),rfl⟩
        . clear hbt pb0 pb1 pbn hN hi hs hr hf p1 p2 ep hv hil hd cont hol htl eg ea
          walk_at "ev"
        . clear hbt pb0 pb1 pbn hN hi hs hr hf p1 p2 ep hv hil hd cont hol htl
          walk_at "ev"
      . by_cases ha:a.toNat < i
        . have:nth ((Z03 ins rows f).take i) a=nth (Z03 ins rows f) a:=by unfold nth; rw [List.getD,List.getD,List.getElem?_take_of_lt ha]
          rw [this]; exact hbt a
        . have:nth ((Z03 ins rows f).take i) a=0:=by unfold nth; rw [List.getD,List.getElem?_eq_none (by omega)]; rfl
          rw [this]; exact Z4y _
  . rintro env ⟨s,rfl⟩
    rw [List.length_map,List.length_range,<- hN,List.take_length]
    rfl
theorem ZaW {C:Addr} {ins:Nat} {rows:List Row} {outs:List Int} {f:Flt} (hi:ins <= 8) (hs:ins + rows.length <= 1000) (hr:RowsOk ins rows) (hf:FltOk ins rows f) (ho:∀ a ∈ outs,0 <= a /\ a < ((ins + rows.length:Nat):Int)) :
    Z1v C [.int ins,.lst (rows.map Row.d),LI outs,f.d]=some (.int (Za4 ins rows outs f)):=by
  have t0:Z0U C [.int ins,.lst (rows.map Row.d),.non]=some (LI (Z03 ins rows .none)):=Z5g (f:=.none) hi hs hr .no
  have t1:=Z5g (C:=C) hi hs hr hf
  have l0:=Z0Z ins rows .none
  have l1:=Z0Z ins rows f
  unfold Za4
  generalize Z03 ins rows .none=A at *
  generalize Z03 ins rows f=B at *
  refine Z1e ?_
  unfold Z5L
  refine sSet (Z0e (xs:=[.int ins,.lst (rows.map Row.d),.non]) rfl t0) ?_
  refine sSet (Z0e (xs:=[.int ins,.lst (rows.map Row.d),f.d]) rfl t1) ?_
  refine sSet (d:=.int 0) (by walk_at "ev") ?_
  refine Z63 (ds:=outs.map D.int) (by rfl)
    (fun i env=>∃ a,env=[some (false,.int ins),some (false,.lst (rows.map Row.d)),some (false,LI outs),some (false,f.d),some (true,LI A),some (true,LI B),some (true,.int (Z3t A B (outs.take i))),a]) ⟨none,rfl⟩ ?_ ?_
  . rintro i d env hd ⟨a,rfl⟩
    obtain ⟨x,hx,rfl⟩:=Z14 hd
    have hx2:=ho x (List.mem_of_getElem? hx)
    have ea:=Z2S (vs:=A) (a:=x) hx2.1 (by rw [l0]; exact hx2.2)
    have eb:=Z2S (vs:=B) (a:=x) hx2.1 (by rw [l1]; exact hx2.2)
    refine ⟨_,_,rfl,Zdt (d:=.int (Builtin.bitOr (Z3t A B (outs.take i)) (Builtin.bitXor (nth A x) (nth B x)))) ?_,some (false,.int x),by rw [Z66 hx]; rfl⟩
    simp only [LI]
    clear hd hx t0 t1 ho hr hf
    walk_at "ev"
  . rintro env ⟨a,rfl⟩
    rw [List.length_map,List.take_length]
    rfl
theorem Zff {n:Nat} {x:Int} (h:IsT n x) {k:Kd} (hk:k ≠ .xor):kdT k x x=x:=by
  obtain ⟨b,rfl⟩:=h
  cases k with
  | and=>unfold kdT; rw [Z3a]; exact Z0j fun g _=>by cases b g <;> rfl
  | or=>unfold kdT; rw [Z3x]; exact Z0j fun g _=>by cases b g <;> rfl
  | xor=>exact absurd rfl hk
theorem Zct {n:Nat} {x y:Int} (h:IsT n x) (k:IsT n y):Builtin.bitOr x (Builtin.bitAnd x y)=x:=by
  obtain ⟨b,rfl⟩:=h; obtain ⟨c,rfl⟩:=k
  rw [Z3a,Z3x]; exact Z0j fun g _=>by cases b g <;> cases c g <;> rfl
theorem Zcu {n:Nat} {x y:Int} (h:IsT n x) (k:IsT n y):Builtin.bitAnd (Builtin.bitOr x y) x=x:=by
  obtain ⟨b,rfl⟩:=h; obtain ⟨c,rfl⟩:=k
  rw [Z3x,Z3a]; exact Z0j fun g _=>by cases b g <;> cases c g <;> rfl
theorem Zfe {n:Nat} {x:Int} (h:IsT n x):Builtin.bitXor (Builtin.bitXor x (Z09 n)) (Z09 n)=x:=by rw [t_xc h,t_xx h]
theorem ZfQ (x:Int):∃ k:Kd,k ≠ .xor /\ atI [D.str "and",.str "or"] (x % 2)=some (.str k.s):=by
  have h0:=Int.emod_nonneg x (show (2:Int) ≠ 0 by decide)
  have h1:=Int.emod_lt_of_pos x (show (0:Int) < 2 by decide)
  rcases (show x % 2=0 \/ x % 2=1 by omega) with z | z
  . rw [z]; exact ⟨.and,by decide,rfl⟩
  . rw [z]; exact ⟨.or,by decide,rfl⟩
theorem Z39 {ins:Nat} {R:List Row} {r:Row} {v:Int} (hr:RowsOk ins R) (hk:RowOk ((ins + R.length:Nat):Int) r) (hv:gate r (r.ws.map (nth (Z03 ins R .none))) (Z09 (2 ^ ins))=v) :
    RowsOk ins (R ++ [r]) /\ nth (Z03 ins (R ++ [r]) .none) ((ins + R.length:Nat):Int)=v /\ ∀ a:Int,0 <= a -> a < ((ins + R.length:Nat):Int) -> nth (Z03 ins (R ++ [r]) .none) a=nth (Z03 ins R .none) a:=by
  refine ⟨hr.snoc hk,?_,fun a h0 h1=>?_⟩
  . rw [Z3w,hv]
    exact ZaQ (by rw [Z0Z]; omega)
  . rw [Z3w]
    exact ZaR (by rw [Z0Z]; omega)
structure Behind (ins:Nat) (wide:List Row) (w:Int) (bs:List Row):Prop where
  l1:1 <= bs.length
  l3:bs.length <= 3
  ok:RowsOk ins (wide ++ bs)
  same:∀ a:Int,0 <= a -> a < ((ins + wide.length:Nat):Int) -> nth (Z03 ins (wide ++ bs) .none) a=nth (Z03 ins wide .none) a
  val:nth (Z03 ins (wide ++ bs) .none) ((ins:Int) + ((wide ++ bs).length:Int) - 1)=nth (Z03 ins wide .none) w
theorem Z5Z {ins:Nat} {R:List Row} {w:Int} {r:Row} (hr:RowsOk ins R) (hk:RowOk ((ins + R.length:Nat):Int) r) (hv:gate r (r.ws.map (nth (Z03 ins R .none))) (Z09 (2 ^ ins))=nth (Z03 ins R .none) w):Behind ins R w [r]:=by
  obtain ⟨a,b,c⟩:=Z39 hr hk hv
  refine ⟨by simp,by simp,a,c,?_⟩
  rw [List.length_append,show (ins:Int) + ((R.length + [r].length:Nat):Int) - 1=((ins + R.length:Nat):Int) by simp; omega]
  exact b
theorem Behind.cons {ins:Nat} {R:List Row} {w:Int} {r:Row} {bs:List Row} {v:Int} (hr:RowsOk ins R) (hk:RowOk ((ins + R.length:Nat):Int) r) (hv:gate r (r.ws.map (nth (Z03 ins R .none))) (Z09 (2 ^ ins))=v) (w0:0 <= w) (w1:w < ((ins + R.length:Nat):Int)) (h:Behind ins (R ++ [r]) w bs) (hl:bs.length <= 2):Behind ins R w (r :: bs):=by
  obtain ⟨a,b,c⟩:=Z39 hr hk hv
  have e:R ++ r :: bs=(R ++ [r]) ++ bs:=by simp
  refine ⟨by simp,by simp; omega,by rw [e]; exact h.ok,fun x h0 h1=>?_,?_⟩
  . rw [e,h.same x h0 (by simp; omega),c x h0 h1]
  . rw [e,h.val,c w w0 w1]
theorem Zcs {C:Addr} {ins:Nat} {wide:List Row} {w m:Int} (hr:RowsOk ins wide) (w0:0 <= w) (w1:w < ((ins + wide.length:Nat):Int)) (hm:0 <= m) :
    ∃ d,Z26 C [.lst (wide.map Row.d),.int ins,.int w,.int m]=some d /\ ∃ bs:List Row,d=.lst (bs.map Row.d) /\ Behind ins wide w bs:=by
  refine runW ?_
  unfold Z6q
  have el:FLen [.lst (wide.map Row.d)]=some (.int (wide.length:Int)):=by simp only [FLen,List.length_map]
  have hp:0 < (ins:Int) + (wide.length:Int):=by omega
  have q5:(0:Int) < 5:=by decide
  have q2:(0:Int) < 2:=by decide
  have d5:Z2h m 5:=⟨by decide,by decide⟩
  have d7:Z2h m 7:=⟨by decide,by decide⟩
  have m0:=Int.emod_nonneg m (show (5:Int) ≠ 0 by decide)
  have m5:=Int.emod_lt_of_pos m q5
  have o0:=Int.emod_nonneg (m / 5) (show (ins:Int) + (wide.length:Int) ≠ 0 by omega)
  have o1:=Int.emod_lt_of_pos (m / 5) hp
  obtain ⟨k2,k2n,pk⟩:=ZfQ (m / 7)
  have hw:RowOk ((ins + wide.length:Nat):Int) (.not w):=⟨w0,w1⟩
  have tw:=Z20 (f:=.none) hr FltOk.no w
  have nx:∀ (R:List Row),((ins + (R ++ [Row.fix 0]).length:Nat):Int)=((ins + R.length:Nat):Int) + 1:=fun R=>by simp; omega
  refine wSet (d:=.int (m / 5 % ((ins:Int) + (wide.length:Int)))) (by clear hr hw tw nx pk m0 m5 o0 o1; walk_at "ev") ?_
  generalize hone:m / 5 % ((ins:Int) + (wide.length:Int))=one at *
  have ho:0 <= one /\ one < ((ins + wide.length:Nat):Int):=⟨o0,by omega⟩
  have to:=Z20 (f:=.none) hr FltOk.no one
  refine wSet (d:=.int ((ins + wide.length:Nat):Int)) (by rw [show ((ins + wide.length:Nat):Int)=(ins:Int) + (wide.length:Int) by omega]; clear hr hw tw nx pk m0 m5 o0 o1 ho to hone; walk_at "ev") ?_
  generalize hn:((ins + wide.length:Nat):Int)=n at *
  refine wSet (d:=.int (m % 5)) (by clear hr hw tw nx pk m0 m5 o0 o1 ho to hone; walk_at "ev") ?_
  generalize m % 5=way at *
  by_cases h0:way=0
  . subst h0
    refine wIfT rfl (ZbM (d:=.lst ([Row.bin k2 w w].map Row.d)) (by clear hr hw tw nx m0 m5 o0 o1 ho to hone; simp only [List.map_cons,List.map_nil,Row.d]; walk_at "ev") ⟨_,rfl,_,rfl,?_⟩)
    refine Z5Z hr (by rw [hn]; exact ⟨⟨w0,w1⟩,w0,w1⟩) ?_
    have:=Zff tw k2n
    cases k2 with
    | and=>exact this
    | or=>exact this
    | xor=>exact absurd rfl k2n
  refine wNo (by clear hr hw tw nx pk ho to hone m0 m5; walk_at "ev") ?_
  by_cases h1:way=1
  . subst h1
    refine wIfT rfl (ZbM (d:=.lst ([Row.bin .and w one,Row.bin .or w n].map Row.d)) rfl ⟨_,rfl,_,rfl,?_⟩)
    have hk:RowOk ((ins + wide.length:Nat):Int) (.bin .and w one):=by rw [hn]; exact ⟨⟨w0,w1⟩,ho⟩
    obtain ⟨a,b,c⟩:=Z39 hr hk rfl
    refine Behind.cons hr hk rfl w0 (by omega) (Z5Z a ⟨⟨w0,by simp; omega⟩,by simp; omega⟩ ?_) (by simp)
    rw [hn] at b c
    show Builtin.bitOr (nth _ w) (nth _ n)=nth _ w
    rw [b,c w w0 w1]
    exact Zct tw to
  refine wNo (by clear hr hw tw nx pk ho to hone m0 m5; walk_at "ev") ?_
  by_cases h2:way=2
  . subst h2
    refine wIfT rfl (ZbM (d:=.lst ([Row.bin .or w one,Row.bin .and n w].map Row.d)) rfl ⟨_,rfl,_,rfl,?_⟩)
    have hk:RowOk ((ins + wide.length:Nat):Int) (.bin .or w one):=by rw [hn]; exact ⟨⟨w0,w1⟩,ho⟩
    obtain ⟨a,b,c⟩:=Z39 hr hk rfl
    refine Behind.cons hr hk rfl w0 (by omega) (Z5Z a ⟨by simp; omega,⟨w0,by simp; omega⟩⟩ ?_) (by simp)
    rw [hn] at b c
    show Builtin.bitAnd (nth _ n) (nth _ w)=nth _ w
    rw [b,c w w0 w1]
    exact Zcu tw to
  refine wNo (by clear hr hw tw nx pk ho to hone m0 m5; walk_at "ev") ?_
  by_cases h3:way=3
  . subst h3
    refine wIfT rfl (ZbM (d:=.lst ([Row.fix 0,Row.bin .xor n w].map Row.d)) rfl ⟨_,rfl,_,rfl,?_⟩)
    have hk:RowOk ((ins + wide.length:Nat):Int) (.fix 0):=.inl rfl
    obtain ⟨a,b,c⟩:=Z39 hr hk rfl
    refine Behind.cons hr hk rfl w0 (by omega) (Z5Z a ⟨by simp; omega,⟨w0,by simp; omega⟩⟩ ?_) (by simp)
    rw [hn] at b c
    show Builtin.bitXor (nth _ n) (nth _ w)=nth _ w
    rw [b,c w w0 w1]
    show Builtin.bitXor (Z09 (2 ^ ins) * 0) _=_
    rw [Int.mul_zero]
    exact t_x0 tw
  refine wNo (by clear hr hw tw nx pk ho to hone m0 m5; walk_at "ev") ?_
  refine wRet (d:=.lst ([Row.fix 1,Row.bin .xor w n,Row.bin .xor (n + 1) n].map Row.d)) rfl ⟨_,rfl,_,rfl,?_⟩
  have hk:RowOk ((ins + wide.length:Nat):Int) (.fix 1):=.inr rfl
  obtain ⟨a,b,c⟩:=Z39 hr hk rfl
  have hk2:RowOk ((ins + (wide ++ [Row.fix 1]).length:Nat):Int) (.bin .xor w n):=⟨⟨w0,by simp; omega⟩,by simp; omega⟩
  obtain ⟨a2,b2,c2⟩:=Z39 a hk2 rfl
  refine Behind.cons hr hk rfl w0 (by omega) (Behind.cons a hk2 rfl w0 (by simp; omega) (Z5Z a2 ⟨by simp; omega,by simp; omega⟩ ?_) (by simp)) (by simp)
  have en:((ins + (wide ++ [Row.fix 1]).length:Nat):Int)=n + 1:=by simp; omega
  rw [en] at b2 c2
  rw [hn] at b c
  show Builtin.bitXor (nth _ (n + 1)) (nth _ n)=nth _ w
  rw [b2,c2 n (by omega) (by omega),c2 w w0 (by omega)]
  show Builtin.bitXor (Builtin.bitXor (nth _ w) (nth _ n)) (nth _ n)=nth _ w
  rw [b,c w w0 w1]
  show Builtin.bitXor (Builtin.bitXor _ (Z09 (2 ^ ins) * 1)) (Z09 (2 ^ ins) * 1)=_
  rw [Int.mul_one]
  exact Zfe tw
theorem Zdb {F':List D -> Option D} {fs:En -> Option (List D)} {env:En} {xs:List D} {b:Bool} (h:fs env=some xs) (q:F' xs=some (.bl b)):fB (Z0f F' [] fs) env=some b:=by
  have:Z0f F' [] fs env=some (.bl b):=Z0e (xs:=xs) h (by simpa using q)
  simp only [ev_B,this]
theorem Zcb {a b:En -> Option Bool} {env:En} (h:a env=some false) (k:b env=some false):fOr a b env=some false:=by rw [ev_Or,h]; exact k
structure Z4V (ins:Nat) (due:List Int) (rows:List Row) (outs:List Int):Prop where
  rk:RowsOk ins rows
  ok:∀ a ∈ outs,0 <= a /\ a < ((ins + rows.length:Nat):Int)
  sz:ins + rows.length < 60
  ol:outs.length <= 10
  tb:outs.map (nth (Z03 ins rows .none))=due
  nidle:∀ f ∈ Z23 ins rows outs,Z3t (Z03 ins rows .none) (Z03 ins rows f) outs ≠ 0
theorem Zf9 {C:Addr} {ins:Nat} {rows:List Row} {outs due:List Int} (hi:ins <= 8) (h:Z4V ins due rows outs):Z3X C [circ C ins rows outs]=some (.bl false):=by
  have h1:=h.sz
  have h2:=h.ol
  have ln:=Zcp (C:=C) (ins:=ins) (rows:=rows) (outs:=outs) (by omega) (by omega) h.rk h.ok
  have nb:=Z12 h.rk h.ok
  have nl:=Z4u h.rk h.ok
  have lf:Z2m C [.int ins,.lst (rows.map Row.d),LI outs]=some (.lst ((Z23 ins rows outs).map Flt.d)):=Zcq (C:=C) (N:=Z0G ins rows outs) h.rk nb (by omega) ln
  have fo2:=fun f hf=>(Z4R (outs:=outs) h.rk f hf).1
  have LT:∀ f ∈ Z23 ins rows outs,Z1v C [.int ins,.lst (rows.map Row.d),LI outs,f.d]=some (.int (Za4 ins rows outs f)):=fun f hf=>ZaW (by omega) (by omega) h.rk (fo2 f hf) h.ok
  let S0:Slot:=some (false,circ C ins rows outs)
  have fi:∀ r:List Slot,fFld C "ins" (fVar 0) (S0 :: r)=some (.int (ins:Int)):=fun r=>Z3k rfl
  have fr:∀ r:List Slot,fFld C "rows" (fVar 0) (S0 :: r)=some (.lst (rows.map Row.d)):=fun r=>Z2e rfl
  have fo:∀ r:List Slot,fFld C "outs" (fVar 0) (S0 :: r)=some (LI outs):=fun r=>Z3Z rfl
  refine runE ?_
  unfold Z93
  refine Z6w (ds:=(Z23 ins rows outs).map Flt.d) (Z0V (Z0e (xs:=[.int ins,.lst (rows.map Row.d),LI outs]) (Z0d (fi _) (Z0d (fr _) (Z0d (fo _) rfl))) lf)) (fun i env=>∃ b,env=[S0,b]) ⟨none,rfl⟩ ?_ ?_
  . rintro i d env R hd ⟨b,rfl⟩ hR
    obtain ⟨f,hf,rfl⟩:=Z14 hd
    have hfm:=List.mem_of_getElem? hf
    refine ⟨_,rfl,Z84 ?_ (Z9Y (hR _ ⟨some (false,f.d),rfl⟩))⟩
    have g1:Z0f (Z1v C) [] (Z02 (fFld C "ins" (fVar 0)) (Z02 (fFld C "rows" (fVar 0)) (Z02 (fFld C "outs" (fVar 0)) (Z02 (fVar 1) fNil)))) [S0,some (false,f.d)]=some (.int (Za4 ins rows outs f)):=Z0e (xs:=[.int ins,.lst (rows.map Row.d),LI outs,f.d]) (Z0d (fi _) (Z0d (fr _) (Z0d (fo _) rfl))) (LT f hfm)
    have hz:=h.nidle f hfm
    show fEq (Z0f (Z1v C) [] (Z02 (fFld C "ins" (fVar 0)) (Z02 (fFld C "rows" (fVar 0)) (Z02 (fFld C "outs" (fVar 0)) (Z02 (fVar 1) fNil))))) (fC (.int 0)) [S0,some (false,f.d)]=_
    rw [ev_Eq,g1]
    show eqN 8 (.int (Za4 ins rows outs f)) (.int 0)=some false
    rw [eqN_int]; exact congrArg some (decide_eq_false hz)
  . rintro env ⟨b,rfl⟩
    exact wRet rfl rfl
theorem Zf8 {C:Addr} {ins:Nat} {rows:List Row} {outs due:List Int} (hi:ins <= 8) (h:Z4V ins due rows outs):Z3W C [circ C ins rows outs,LI due]=some (.bl true):=by
  have h1:=h.sz
  have h2:=h.ol
  have tl:=Z0Z ins rows .none
  have t:Z0U C [.int ins,.lst (rows.map Row.d),.non]=some (LI (Z03 ins rows .none)):=Z5g (f:=.none) (by omega) (by omega) h.rk .no
  let S0:Slot:=some (false,circ C ins rows outs)
  have fi:∀ r:List Slot,fFld C "ins" (fVar 0) (S0 :: r)=some (.int (ins:Int)):=fun r=>Z3k rfl
  have fr:∀ r:List Slot,fFld C "rows" (fVar 0) (S0 :: r)=some (.lst (rows.map Row.d)):=fun r=>Z2e rfl
  have fo:∀ r:List Slot,fFld C "outs" (fVar 0) (S0 :: r)=some (LI outs):=fun r=>Z3Z rfl
  refine runE ?_
  unfold Z92
  refine wSet (Z0e (xs:=[.int ins,.lst (rows.map Row.d),.non]) (Z0d (fi _) (Z0d (fr _) rfl)) t) ?_
  let S2:Slot:=some (true,LI (Z03 ins rows .none))
  refine wRet (d:=.bl true) ?_ rfl
  show fOfB (fEq (Z1E [2] (fSeq (fFld C "outs" (fVar 0))) fTT (Z0n (fIx (fVar 1) (fVar 0)))) (fVar 1)) [S0,some (false,LI due),S2]=_
  have ec:Z1E [2] (fSeq (fFld C "outs" (fVar 0))) fTT (Z0n (fIx (fVar 1) (fVar 0))) [S0,some (false,LI due),S2]=some (LI due):=by
    rw [Z1y D.int (fun a=>.int (nth (Z03 ins rows .none) a)) (xs:=outs) (Z0V (fo _)) (by omega) (fun a ha=>by
      have hb:=h.ok a ha
      rw [ev_Flat]
      rw [show fIx (fVar 1) (fVar 0) (some (false,D.int a) :: enIn [2] [S0,some (false,LI due),S2])=some (.int (nth (Z03 ins rows .none) a)) from Z2S hb.1 (by rw [tl]; exact hb.2)]
      rfl)]
    rw [<- h.tb]; simp [LI,Function.comp_def]
  rw [ev_OfB,ev_Eq,ec]
  show Option.map D.bl (eqN 8 (LI due) (LI due))=_
  rw [ZcB 6]; rfl
theorem Zcn {C:Addr} (ns:List Int) (hlen:ns.length <= 63) (hbits:∀ i ∈ ns,Builtin.Int.intBits i <= 1048576):Ze6 C [.lst (ns.map D.int)]=some (.bl true):=by
  refine runE ?_
  unfold Zfj
  have e1:=Z2Q ns
  have e2:cutD (ns.map D.int) none (some 8)=(ns.take 8).map D.int:=by rw [List.map_take]; exact Z5j (ns.map D.int) 8
  have e3:cutD (ns.map D.int) none (some 63)=ns.map D.int:=(Z5j (ns.map D.int) 63).trans (List.take_of_length_le (by simpa using hlen))
  refine wSet (d:=LI (ns.take 8)) (by walk_at "ev"; rfl) ?_
  have hcb:∀ c ∈ ns.take 8,Builtin.Int.intBits c <= 1048576:=fun c hc=>hbits c (List.mem_of_mem_take hc)
  have hcl:(ns.take 8).length <= 8:=by rw [List.length_take]; omega
  generalize ns.take 8=cells at *
  refine wSet (d:=.int 3) (by walk_at "ev") ?_
  have el:FLen [.lst (cells.map D.int)]=some (.int (cells.length:Int)):=by simp only [FLen,List.length_map]
  refine wMid (fun e=>∃ fst:Int,Builtin.Int.intBits fst <= 1048700 /\ e=[some (false,.lst (ns.map D.int)),some (true,LI cells),some (true,.int fst),none,none,none,none,none,none,none,none,none,none,none,none,none]) ?_ ?_
  . by_cases h:0 < (cells.length:Int)
    . refine Z9Z (by clear hbits hcb; simp only [LI]; walk_at "ev") ?_
      have sl:fSl (fVar 0) fNoP (fP (fC (.int 63))) [some (false,.lst (ns.map D.int)),some (true,LI cells),some (true,.int 3),none,none,none,none,none,none,none,none,none,none,none,none,none]=some (.lst (ns.map D.int)):=by
        simp only [ev_Sl,ev_var,List.getElem?_cons_zero,Option.join_some,Option.map_some,ev_NoP,ev_P,ev_C,e1,if_true,e3]
      exact Zde (d:=.int ns.sum) (Z2i (xs:=[.lst (ns.map D.int)]) (Z0d sl rfl) (Zaa ns)) ⟨_,rfl,ns.sum,by have:=Z73 ns 1048576 hbits; omega,rfl⟩
    . refine Z84 (by clear hbits hcb; simp only [LI]; walk_at "ev") ?_
      exact ⟨_,rfl,3,Nat.le_trans (PySem.intBits_le_64 (by decide) (by decide)) (by decide),rfl⟩
  rintro _ ⟨fst,hfb,rfl⟩
  have q5:(0:Int) < 5:=by decide
  have q3:(0:Int) < 3:=by decide
  have d5:Z2h fst 5:=⟨by decide,by decide⟩
  have i0:=Int.emod_nonneg fst (show (5:Int) ≠ 0 by decide)
  have i1:=Int.emod_lt_of_pos fst q5
  have j0:=Int.emod_nonneg (fst / 5) (show (3:Int) ≠ 0 by decide)
  have j1:=Int.emod_lt_of_pos (fst / 5) q3
  obtain ⟨ins,hins⟩:∃ k:Nat,fst % 5=(k:Int):=⟨(fst % 5).toNat,by omega⟩
  obtain ⟨many,hmany⟩:∃ k:Nat,fst / 5 % 3=(k:Int):=⟨(fst / 5 % 3).toNat,by omega⟩
  have hi8:ins <= 4:=by omega
  refine wSet (d:=.int (ins:Int)) (by clear hcb hbits; walk_at "ev") ?_
  obtain ⟨_,ec,rows,outs,hr,hrl,hpos,hol,ho,rfl⟩:=Z9H (C:=C) (cells:=cells) (ins:=ins) (most:=8) (many:=many) (B:=8) hcb (by omega) (by decide) (by decide) (by decide) (by omega)
  have ec':Z22 C [LI cells,.int ins,.int 8,.int many]=some (.tup [.lst (rows.map Row.d),LI outs]):=ec
  refine wUnp (d:=.tup [.lst (rows.map Row.d),LI outs]) (by clear hcb ec hbits; walk_at "ev") rfl ?_
  have f1:Z4F [.lst (rows.map Row.d)]=some (.lst (rows.map Row.d)):=by simp only [Z4F,Z5n,if_true]
  refine wSet (d:=.lst (rows.map Row.d)) (Z2i (xs:=[.lst (rows.map Row.d)]) rfl f1) ?_
  refine wSet (d:=.lst []) rfl ?_
  clear ec ec' f1 j0 j1 hcb el e1 e2 e3 hbits
  have om:outs.length <= 3:=by omega
  clear hmany
  let S0:Slot:=some (false,.lst (ns.map D.int))
  let S1:Slot:=some (true,LI cells)
  let S2:Slot:=some (true,.int fst)
  let S3:Slot:=some (true,.int (ins:Int))
  let S4:Slot:=some (false,.lst (rows.map Row.d))
  let S5:Slot:=some (false,LI outs)
  have tl1:=Z0Z ins rows .none
  refine Z6w (ds:=(outs.map D.int).mapIdx fun i d=>.tup [.int i,d]) (Z3o (xs:=[LI outs]) rfl (by simp only [Z4i,LI]))
    (fun i env=>∃ (wide:List Row) (ends:List Int) (a b:Slot),env=[S0,S1,S2,S3,S4,S5,some (true,.lst (wide.map Row.d)),some (true,LI ends),a,b,none,none,none,none,none,none] /\ RowsOk ins wide /\ rows.length <= wide.length /\ wide.length <= 8 + 3 * i /\ ends.length=i /\ (∀ a ∈ ends,0 <= a /\ a < ((ins + wide.length:Nat):Int)) /\ (∀ a:Int,0 <= a -> a < ((ins + rows.length:Nat):Int) -> nth (Z03 ins wide .none) a=nth (Z03 ins rows .none) a) /\ ends.map (nth (Z03 ins wide .none))=(outs.take i).map (nth (Z03 ins rows .none)))
    ⟨rows,[],none,none,rfl,hr,Nat.le_refl _,by omega,rfl,fun a ha=>(by cases ha),fun a _ _=>rfl,rfl⟩ ?_ ?_
  . rintro i d env Q hd ⟨wide,ends,a,b,rfl,wr,wl,wm,wn,wo,ws,wt⟩ hQ
    obtain ⟨y,hy,rfl⟩:=Z34 hd
    obtain ⟨w,hw,rfl⟩:=Z14 hy
    have hb:=ho w (List.mem_of_getElem? hw)
    have hil:i < outs.length:=(List.getElem?_eq_some_iff.mp hw).1
    obtain ⟨m,m0,m1,em⟩:=Z8l (C:=C) hfb (show (0:Int) <= (i:Int) by omega)
    obtain ⟨_,eb,bs,rfl,B⟩:=Zcs (C:=C) (ins:=ins) (wide:=wide) (w:=w) (m:=m) wr hb.1 (by omega) m0
    refine ⟨_,rfl,?_⟩
    have l1:=B.l1
    have l3:=B.l3
    have ecat:Zbo (fVar 6) (Z0f (Z26 C) [] (Z02 (fVar 6) (Z02 (fVar 3) (Z02 (fVar 9) (Z02 (Z0f (Z1c C) [] (Z02 (fVar 2) (Z02 (fVar 8) fNil))) fNil))))) [S0,S1,S2,S3,S4,S5,some (true,.lst (wide.map Row.d)),some (true,LI ends),some (false,.int (i:Int)),some (false,.int w),none,none,none,none,none,none]=some (.lst ((wide ++ bs).map Row.d)):=by
      have g1:Z0f (Z26 C) [] (Z02 (fVar 6) (Z02 (fVar 3) (Z02 (fVar 9) (Z02 (Z0f (Z1c C) [] (Z02 (fVar 2) (Z02 (fVar 8) fNil))) fNil)))) [S0,S1,S2,S3,S4,S5,some (true,.lst (wide.map Row.d)),some (true,LI ends),some (false,.int (i:Int)),some (false,.int w),none,none,none,none,none,none]=some (.lst (bs.map Row.d)) :=
        Z0e (xs:=[.lst (wide.map Row.d),.int ins,.int w,.int m]) (Z0d rfl (Z0d rfl (Z0d rfl (Z0d (Z0e (xs:=[.int fst,.int (i:Int)]) rfl em) rfl)))) eb
      rw [ev_CatF,g1]
      show (if (Z1m (wide.map Row.d)=true /\ Z1m (bs.map Row.d)=true) /\ (wide.map Row.d).length + (bs.map Row.d).length <= 1000 then some (D.lst (wide.map Row.d ++ bs.map Row.d)) else none)=_
      rw [if_pos ⟨⟨Z5n _,Z5n _⟩,by rw [List.length_map,List.length_map]; omega⟩,List.map_append]
    refine wSet ecat ?_
    have el:fB1 FLen (Z02 (fVar 6) fNil) [S0,S1,S2,S3,S4,S5,some (true,.lst ((wide ++ bs).map Row.d)),some (true,LI ends),some (false,.int (i:Int)),some (false,.int w),none,none,none,none,none,none]=some (.int ((wide ++ bs).length:Int)):=Z2i (xs:=[.lst ((wide ++ bs).map Row.d)]) rfl (by simp only [FLen,List.length_map])
    have le:(wide ++ bs).length=wide.length + bs.length:=List.length_append
    refine Z79 (ds:=ends.map D.int) (d:=.int ((ins:Int) + ((wide ++ bs).length:Int) - 1)) ?_ rfl (by rw [List.length_map]; omega) (hQ _ ⟨wide ++ bs,ends ++ [(ins:Int) + ((wide ++ bs).length:Int) - 1],some (false,.int (i:Int)),some (false,.int w),?_,B.ok,by omega,by omega,by simp [wn],?_,?_,?_⟩)
    . show fI0 (fun i j=>.int (i - j)) (fI0 (fun i j=>.int (i + j)) (fVar 3) (fB1 FLen (Z02 (fVar 6) fNil))) (fC (.int 1)) [S0,S1,S2,S3,S4,S5,some (true,.lst ((wide ++ bs).map Row.d)),some (true,LI ends),some (false,.int (i:Int)),some (false,.int w),none,none,none,none,none,none]=_
      rw [ev_I0',ev_I0',el]; rfl
    . simp only [LI,List.map_append,List.map_cons,List.map_nil]; rfl
    . intro a ha
      rcases List.mem_append.mp ha with z | z
      . have:=wo a z; omega
      . have:a=(ins:Int) + ((wide ++ bs).length:Int) - 1:=by simpa using z
        omega
    . intro a a0 a1
      rw [B.same a a0 (by omega)]; exact ws a a0 a1
    . rw [Z0v hw,List.map_append,List.map_append]
      congr 1
      . rw [<- wt]
        exact List.map_congr_left fun a ha=>B.same a (wo a ha).1 (wo a ha).2
      . simp only [List.map_cons,List.map_nil]
        rw [B.val,ws w hb.1 hb.2]
  rintro env ⟨wide,ends,a,b,rfl,wr,wl,wm,wn,wo,ws,wt⟩
  rw [List.length_mapIdx,List.length_map] at wm wn
  rw [List.length_mapIdx,List.length_map,List.take_length] at wt
  have t1:Z0U C [.int ins,.lst (rows.map Row.d),.non]=some (LI (Z03 ins rows .none)):=Z5g (f:=.none) (by omega) (by omega) hr .no
  refine wSet (Z0e (xs:=[.int ins,.lst (rows.map Row.d),.non]) rfl t1) ?_
  let S6:Slot:=some (true,.lst (wide.map Row.d))
  let S7:Slot:=some (true,LI ends)
  let S10:Slot:=some (true,LI (Z03 ins rows .none))
  generalize hdue:outs.map (nth (Z03 ins rows .none))=due at *
  have ec:Z1E [10] (fSeq (fVar 5)) fTT (Z0n (fIx (fVar 1) (fVar 0))) [S0,S1,S2,S3,S4,S5,S6,S7,a,b,S10,none,none,none,none,none]=some (LI due):=by
    rw [Z1y D.int (fun a=>.int (nth (Z03 ins rows .none) a)) (xs:=outs) rfl (by omega) (fun a ha=>by
      have hb:=ho a ha
      exact Z97 (d:=.int (nth (Z03 ins rows .none) a)) (Z2S (vs:=Z03 ins rows .none) hb.1 (by rw [tl1]; exact hb.2)) rfl)]
    rw [<- hdue]; simp [LI,Function.comp_def]
  refine wSet ec ?_
  let S11:Slot:=some (true,LI due)
  obtain ⟨_,le1,rowsA,outsA,rfl,slA,niA⟩:=Z8j (C:=C) (ins:=ins) (rows:=rows) (outs:=outs) (by omega) (by omega) (by omega) hr ho
  obtain ⟨_,le2,rowsB,outsB,rfl,slB,niB⟩:=Z8j (C:=C) (ins:=ins) (rows:=wide) (outs:=ends) (by omega) (by omega) (by omega) wr wo
  have lB:=slB.le
  have oB:=slB.ol
  have lA:=slA.le
  have oA:=slA.ol
  obtain ⟨_,le3,rowsD,outsD,rfl,slD,niD⟩:=Z8j (C:=C) (ins:=ins) (rows:=rowsB) (outs:=outsB) (by omega) (by omega) (by omega) slB.rk slB.ok
  have lD:=slD.le
  have oD:=slD.ol
  have A1:Z4V ins due rowsA outsA:=⟨slA.rk,slA.ok,by omega,by omega,slA.tb.trans hdue,niA⟩
  have A2:Z4V ins due rowsB outsB:=⟨slB.rk,slB.ok,by omega,by omega,slB.tb.trans wt,niB⟩
  have A3:Z4V ins due rowsD outsD:=⟨slD.rk,slD.ok,by omega,by omega,slD.tb.trans (slB.tb.trans wt),niD⟩
  have c1:fB1 (Z1d C) (Z02 (fVar 3) (Z02 (fVar 4) (Z02 (fVar 5) fNil))) [S0,S1,S2,S3,S4,S5,S6,S7,a,b,S10,S11,none,none,none,none]=some (circ C ins rows outs):=Z2i (xs:=[.int (ins:Int),.lst (rows.map Row.d),LI outs]) rfl (Z6S (by omega))
  refine wSet (Z0e (xs:=[circ C ins rows outs]) (Z0d c1 rfl) le1) ?_
  let S12:Slot:=some (true,circ C ins rowsA outsA)
  have c2:fB1 (Z1d C) (Z02 (fVar 3) (Z02 (fVar 6) (Z02 (fVar 7) fNil))) [S0,S1,S2,S3,S4,S5,S6,S7,a,b,S10,S11,S12,none,none,none]=some (circ C ins wide ends):=Z2i (xs:=[.int (ins:Int),.lst (wide.map Row.d),LI ends]) rfl (Z6S (by omega))
  refine wSet (Z0e (xs:=[circ C ins wide ends]) (Z0d c2 rfl) le2) ?_
  refine wSet (Z0e (xs:=[circ C ins rowsB outsB]) rfl le3) ?_
  let S13:Slot:=some (true,circ C ins rowsB outsB)
  let S14:Slot:=some (true,circ C ins rowsD outsD)
  let E:En:=[S0,S1,S2,S3,S4,S5,S6,S7,a,b,S10,S11,S12,S13,S14,none]
  have r12:fB1 FLen (Z02 (fFld C "rows" (fVar 12)) fNil) E=some (.int (rowsA.length:Int)):=Z2i (xs:=[.lst (rowsA.map Row.d)]) (Z0d (Z2e (outs:=outsA) rfl) rfl) (by simp only [FLen,List.length_map])
  have r13:fB1 FLen (Z02 (fFld C "rows" (fVar 13)) fNil) E=some (.int (rowsB.length:Int)):=Z2i (xs:=[.lst (rowsB.map Row.d)]) (Z0d (Z2e (outs:=outsB) rfl) rfl) (by simp only [FLen,List.length_map])
  have r14:fB1 FLen (Z02 (fFld C "rows" (fVar 14)) fNil) E=some (.int (rowsD.length:Int)):=Z2i (xs:=[.lst (rowsD.map Row.d)]) (Z0d (Z2e (outs:=outsD) rfl) rfl) (by simp only [FLen,List.length_map])
  have r4:fB1 FLen (Z02 (fVar 4) fNil) E=some (.int (rows.length:Int)):=Z2i (xs:=[.lst (rows.map Row.d)]) rfl (by simp only [FLen,List.length_map])
  have r6:fB1 FLen (Z02 (fVar 6) fNil) E=some (.int (wide.length:Int)):=Z2i (xs:=[.lst (wide.map Row.d)]) rfl (by simp only [FLen,List.length_map])
  have gt:∀ {fa fb:En -> Option D} {x y:Nat},fa E=some (.int (x:Int)) -> fb E=some (.int (y:Int)) -> x <= y -> fBI (fun i j=>decide (j < i)) fa fb E=some false:=fun h k l=>by
    rw [ev_BI,h,k]
    show some (decide _)=_
    rw [decide_eq_false (by omega)]
  refine wNo (env:=E) (Zcb (gt r12 r4 (by omega)) (Zcb (gt r13 r6 (by omega)) (gt r14 r13 (by omega)))) ?_
  let F:Slot -> En:=fun s=>[S0,S1,S2,S3,S4,S5,S6,S7,a,b,S10,S11,some (false,circ C ins rowsA outsA),some (false,circ C ins rowsB outsB),some (false,circ C ins rowsD outsD),s]
  refine Z6w (ds:=[circ C ins rowsA outsA,circ C ins rowsB outsB,circ C ins rowsD outsD]) rfl (fun i env=>∃ s,env=F s) ⟨none,rfl⟩ ?_ ?_
  . rintro i d env Q hd ⟨s,rfl⟩ hQ
    have:∃ rowsX outsX,d=circ C ins rowsX outsX /\ Z4V ins due rowsX outsX:=by
      match i with
      | 0=>cases hd; exact ⟨_,_,rfl,A1⟩
      | 1=>cases hd; exact ⟨_,_,rfl,A2⟩
      | 2=>cases hd; exact ⟨_,_,rfl,A3⟩
      | i + 3=>cases hd
    obtain ⟨rowsX,outsX,rfl,AX⟩:=this
    refine ⟨_,rfl,?_⟩
    show Wp (rIf _ _ _ (F (some (false,circ C ins rowsX outsX)))) _
    refine Z84 (Zcb ?_ (Zcb ?_ ?_)) (Z9Y (hQ _ ⟨_,rfl⟩))
    . have ic:fIsC C (fVar 15) (F (some (false,circ C ins rowsX outsX)))=some (.bl true):=by
        unfold fIsC
        show (if C=C then some (D.bl true) else none)=_
        rw [if_pos rfl]
      rw [ev_Not,ev_B,ic]; rfl
    . rw [ev_Not,Zdb (xs:=[circ C ins rowsX outsX,LI due]) rfl (Zf8 (by omega) AX)]; rfl
    . exact Zdb (xs:=[circ C ins rowsX outsX]) rfl (Zf9 (by omega) AX)
  . rintro env ⟨s,rfl⟩
    exact wRet rfl rfl
theorem us0 {Z:List Value -> Prop} (h:Z []) (us:List Value) (hl:us.length=0):Z us:=by rw [List.eq_nil_of_length_eq_zero hl]; exact h
theorem usS {Z:List Value -> Prop} {n:Nat} (h:∀ (a:Value) (t:List Value),t.length=n -> Z (a :: t)) (us:List Value) (hl:us.length=n + 1):Z us:=by
  cases us with
  | nil=>exact absurd hl (by simp)
  | cons a t=>exact h a t (Nat.succ.inj hl)
theorem us1 {Z:List Value -> Prop} (h:∀ a0:Value,Z [a0]) (us:List Value) (hl:us.length=1):Z us:=usS (n:=0) (fun a=>us0 (Z:=fun t=>Z (a :: t)) (h a)) us hl
theorem us2 {Z:List Value -> Prop} (h:∀ a0 a1:Value,Z [a0,a1]) (us:List Value) (hl:us.length=2):Z us:=usS (n:=1) (fun a=>us1 (Z:=fun t=>Z (a :: t)) (h a)) us hl
theorem us3 {Z:List Value -> Prop} (h:∀ a0 a1 a2:Value,Z [a0,a1,a2]) (us:List Value) (hl:us.length=3):Z us:=usS (n:=2) (fun a=>us2 (Z:=fun t=>Z (a :: t)) (h a)) us hl
theorem us4 {Z:List Value -> Prop} (h:∀ a0 a1 a2 a3:Value,Z [a0,a1,a2,a3]) (us:List Value) (hl:us.length=4):Z us:=usS (n:=3) (fun a=>us3 (Z:=fun t=>Z (a :: t)) (h a)) us hl
theorem us5 {Z:List Value -> Prop} (h:∀ a0 a1 a2 a3 a4:Value,Z [a0,a1,a2,a3,a4]) (us:List Value) (hl:us.length=5):Z us:=usS (n:=4) (fun a=>us4 (Z:=fun t=>Z (a :: t)) (h a)) us hl
theorem us6 {Z:List Value -> Prop} (h:∀ a0 a1 a2 a3 a4 a5:Value,Z [a0,a1,a2,a3,a4,a5]) (us:List Value) (hl:us.length=6):Z us:=usS (n:=5) (fun a=>us5 (Z:=fun t=>Z (a :: t)) (h a)) us hl
theorem rps0 {K:Frag} {H:Hp}:Reps K false H [] [] []:=by simp only [Reps]; exact ⟨trivial,trivial⟩
theorem head_mk {l:PySem.W.OpenLaw} {w:World} {K:Frag} {h:Heap} {mg:Str -> Option Value} {fa:Addr} (X:K.In h) (G:h.Ns mainGlobals mg) (hfa:mg "law" = some (.ref fa))
    {C_Circuit:Addr}
    {f0:Addr} {od0 an0:Option Addr} {sl0:Array (Option Value)} {oc0 kV0 dc0 pm0 cd0 ct0:Value}
    {f1:Addr} {od1 an1:Option Addr} {sl1:Array (Option Value)} {oc1 kV1 dc1 pm1 cd1 ct1:Value}
    {f2:Addr} {od2 an2:Option Addr} {sl2:Array (Option Value)} {oc2 kV2 dc2 pm2 cd2 ct2:Value}
    {f3:Addr} {od3 an3:Option Addr} {sl3:Array (Option Value)} {oc3 kV3 dc3 pm3 cd3 ct3:Value}
    {f4:Addr} {od4 an4:Option Addr} {sl4:Array (Option Value)} {oc4 kV4 dc4 pm4 cd4 ct4:Value}
    {f5:Addr} {od5 an5:Option Addr} {sl5:Array (Option Value)} {oc5 kV5 dc5 pm5 cd5 ct5:Value}
    {f6:Addr} {od6 an6:Option Addr} {sl6:Array (Option Value)} {oc6 kV6 dc6 pm6 cd6 ct6:Value}
    {f7:Addr} {od7 an7:Option Addr} {sl7:Array (Option Value)} {oc7 kV7 dc7 pm7 cd7 ct7:Value}
    {f8:Addr} {od8 an8:Option Addr} {sl8:Array (Option Value)} {oc8 kV8 dc8 pm8 cd8 ct8:Value}
    {T8:Addr} {ocT8:Value} {odT8:Option Addr} {slT8:Array (Option Value)} {nT8:Nat}
    {f9:Addr} {od9 an9:Option Addr} {sl9:Array (Option Value)} {oc9 kV9 dc9 pm9 cd9 ct9:Value}
    {f10:Addr} {od10 an10:Option Addr} {sl10:Array (Option Value)} {oc10 kV10 dc10 pm10 cd10 ct10:Value}
    {T10:Addr} {ocT10:Value} {odT10:Option Addr} {slT10:Array (Option Value)} {nT10:Nat}
    {f11:Addr} {od11 an11:Option Addr} {sl11:Array (Option Value)} {oc11 kV11 dc11 pm11 cd11 ct11:Value}
    {f12:Addr} {od12 an12:Option Addr} {sl12:Array (Option Value)} {oc12 kV12 dc12 pm12 cd12 ct12:Value}
    {f13:Addr} {od13 an13:Option Addr} {sl13:Array (Option Value)} {oc13 kV13 dc13 pm13 cd13 ct13:Value}
    {f14:Addr} {od14 an14:Option Addr} {sl14:Array (Option Value)} {oc14 kV14 dc14 pm14 cd14 ct14:Value}
    {f15:Addr} {od15 an15:Option Addr} {sl15:Array (Option Value)} {oc15 kV15 dc15 pm15 cd15 ct15:Value}
    {f16:Addr} {od16 an16:Option Addr} {sl16:Array (Option Value)} {oc16 kV16 dc16 pm16 cd16 ct16:Value}
    {f17:Addr} {od17 an17:Option Addr} {sl17:Array (Option Value)} {oc17 kV17 dc17 pm17 cd17 ct17:Value}
    {f18:Addr} {od18 an18:Option Addr} {sl18:Array (Option Value)} {oc18 kV18 dc18 pm18 cd18 ct18:Value}
    {f19:Addr} {od19 an19:Option Addr} {sl19:Array (Option Value)} {oc19 kV19 dc19 pm19 cd19 ct19:Value}
    {f20:Addr} {od20 an20:Option Addr} {sl20:Array (Option Value)} {oc20 kV20 dc20 pm20 cd20 ct20:Value}
    {f21:Addr} {od21 an21:Option Addr} {sl21:Array (Option Value)} {oc21 kV21 dc21 pm21 cd21 ct21:Value}
    {f22:Addr} {od22 an22:Option Addr} {sl22:Array (Option Value)} {oc22 kV22 dc22 pm22 cd22 ct22:Value}
    {f23:Addr} {od23 an23:Option Addr} {sl23:Array (Option Value)} {oc23 kV23 dc23 pm23 cd23 ct23:Value}
    {f24:Addr} {od24 an24:Option Addr} {sl24:Array (Option Value)} {oc24 kV24 dc24 pm24 cd24 ct24:Value}
    {f25:Addr} {od25 an25:Option Addr} {sl25:Array (Option Value)} {oc25 kV25 dc25 pm25 cd25 ct25:Value}
    {f26:Addr} {od26 an26:Option Addr} {sl26:Array (Option Value)} {oc26 kV26 dc26 pm26 cd26 ct26:Value}
    {f27:Addr} {od27 an27:Option Addr} {sl27:Array (Option Value)} {oc27 kV27 dc27 pm27 cd27 ct27:Value}
    {f28:Addr} {od28 an28:Option Addr} {sl28:Array (Option Value)} {oc28 kV28 dc28 pm28 cd28 ct28:Value}
    {f29:Addr} {od29 an29:Option Addr} {sl29:Array (Option Value)} {oc29 kV29 dc29 pm29 cd29 ct29:Value}
    {f30:Addr} {od30 an30:Option Addr} {sl30:Array (Option Value)} {oc30 kV30 dc30 pm30 cd30 ct30:Value}
    {f31:Addr} {od31 an31:Option Addr} {sl31:Array (Option Value)} {oc31 kV31 dc31 pm31 cd31 ct31:Value}
    {f32:Addr} {od32 an32:Option Addr} {sl32:Array (Option Value)} {oc32 kV32 dc32 pm32 cd32 ct32:Value}
    {f33:Addr} {od33 an33:Option Addr} {sl33:Array (Option Value)} {oc33 kV33 dc33 pm33 cd33 ct33:Value}
    {f34:Addr} {od34 an34:Option Addr} {sl34:Array (Option Value)} {oc34 kV34 dc34 pm34 cd34 ct34:Value}
    {f35:Addr} {od35 an35:Option Addr} {sl35:Array (Option Value)} {oc35 kV35 dc35 pm35 cd35 ct35:Value}
    {f36:Addr} {od36 an36:Option Addr} {sl36:Array (Option Value)} {oc36 kV36 dc36 pm36 cd36 ct36:Value}
    (aC_Circuit:nsIn K mainGlobals "Circuit" = some (some (.ref C_Circuit)))
    (a0:PySem.W.findIn K (.ref C_Circuit) "__init__" = some (some (.ref f0)))
    (l0:K.lookup f0=some ⟨oc0,od0,.func (fnOf "__init__" "Circuit.__init__" (Z0b Z0R) (Z0a Z0R) (Z04 Z0R) .none kV0 dc0 pm0 an0 cd0 ct0),sl0⟩)
    (c0:codeIn K cd0 "Circuit.__init__" = true)
    (k0:keepIn K (.ref f0)=true)
    (i0:PySem.W.isFn K (.ref f0)=true)
    (pg_Circuit:PySem.W.plainGet K C_Circuit Str.empty=true)
    (hd_Circuit:PySem.W.hasDictIn K C_Circuit=true)
    (po_Circuit:PySem.W.plainOver K C_Circuit=true)
    (sa_Circuit:PySem.W.findIn K (.ref C_Circuit) "__setattr__" = some (some (.builtin "object.__setattr__")))
    (mk_Circuit:PySem.W.makesIn K C_Circuit=true)
    (kc_Circuit:keepIn K (.ref C_Circuit)=true)
    (nA_ins:PySem.W.findIn K (.ref C_Circuit) "ins" = some none)
    (nA_rows:PySem.W.findIn K (.ref C_Circuit) "rows" = some none)
    (nA_outs:PySem.W.findIn K (.ref C_Circuit) "outs" = some none)
    (a1:nsIn K mainGlobals "gate_value" = some (some (.ref f1)))
    (l1:K.lookup f1=some ⟨oc1,od1,.func (fnOf "gate_value" "gate_value" (Z0b Z17) (Z0a Z17) (Z04 Z17) .none kV1 dc1 pm1 an1 cd1 ct1),sl1⟩)
    (c1:codeIn K cd1 "gate_value" = true)
    (k1:keepIn K (.ref f1)=true)
    (a2:nsIn K mainGlobals "leg_wires" = some (some (.ref f2)))
    (l2:K.lookup f2=some ⟨oc2,od2,.func (fnOf "leg_wires" "leg_wires" (Z0b Z1q) (Z0a Z1q) (Z04 Z1q) .none kV2 dc2 pm2 an2 cd2 ct2),sl2⟩)
    (c2:codeIn K cd2 "leg_wires" = true)
    (k2:keepIn K (.ref f2)=true)
    (a3:nsIn K mainGlobals "leg_values" = some (some (.ref f3)))
    (l3:K.lookup f3=some ⟨oc3,od3,.func (fnOf "leg_values" "leg_values" (Z0b Z16) (Z0a Z16) (Z04 Z16) .none kV3 dc3 pm3 an3 cd3 ct3),sl3⟩)
    (c3:codeIn K cd3 "leg_values" = true)
    (k3:keepIn K (.ref f3)=true)
    (a4:nsIn K mainGlobals "on_wire" = some (some (.ref f4)))
    (l4:K.lookup f4=some ⟨oc4,od4,.func (fnOf "on_wire" "on_wire" (Z0b Z28) (Z0a Z28) (Z04 Z28) .none kV4 dc4 pm4 an4 cd4 ct4),sl4⟩)
    (c4:codeIn K cd4 "on_wire" = true)
    (k4:keepIn K (.ref f4)=true)
    (a5:nsIn K mainGlobals "borne" = some (some (.ref f5)))
    (l5:K.lookup f5=some ⟨oc5,od5,.func (fnOf "borne" "borne" (Z0b Z3e) (Z0a Z3e) (Z04 Z3e) .none kV5 dc5 pm5 an5 cd5 ct5),sl5⟩)
    (c5:codeIn K cd5 "borne" = true)
    (k5:keepIn K (.ref f5)=true)
    (a6:nsIn K mainGlobals "full_table" = some (some (.ref f6)))
    (l6:K.lookup f6=some ⟨oc6,od6,.func (fnOf "full_table" "full_table" (Z0b Z18) (Z0a Z18) (Z04 Z18) .none kV6 dc6 pm6 an6 cd6 ct6),sl6⟩)
    (c6:codeIn K cd6 "full_table" = true)
    (k6:keepIn K (.ref f6)=true)
    (a7:nsIn K mainGlobals "input_tables" = some (some (.ref f7)))
    (l7:K.lookup f7=some ⟨oc7,od7,.func (fnOf "input_tables" "input_tables" (Z0b Z0Q) (Z0a Z0Q) (Z04 Z0Q) .none kV7 dc7 pm7 an7 cd7 ct7),sl7⟩)
    (c7:codeIn K cd7 "input_tables" = true)
    (k7:keepIn K (.ref f7)=true)
    (a8:nsIn K mainGlobals "tables" = some (some (.ref f8)))
    (l8:K.lookup f8=some ⟨oc8,od8,.func (fnOf "tables" "tables" (Z0b Z1Z) (Z0a Z1Z) (Z04 Z1Z) (.ref T8) kV8 dc8 pm8 an8 cd8 ct8),sl8⟩)
    (c8:codeIn K cd8 "tables" = true)
    (k8:keepIn K (.ref f8)=true)
    (d8:K.lookup T8=some ⟨ocT8,odT8,.seq #[.none] nT8,slT8⟩)
    (a9:nsIn K mainGlobals "at_outs" = some (some (.ref f9)))
    (l9:K.lookup f9=some ⟨oc9,od9,.func (fnOf "at_outs" "at_outs" (Z0b Z2a) (Z0a Z2a) (Z04 Z2a) .none kV9 dc9 pm9 an9 cd9 ct9),sl9⟩)
    (c9:codeIn K cd9 "at_outs" = true)
    (k9:keepIn K (.ref f9)=true)
    (a10:nsIn K mainGlobals "out_tables" = some (some (.ref f10)))
    (l10:K.lookup f10=some ⟨oc10,od10,.func (fnOf "out_tables" "out_tables" (Z0b Z0L) (Z0a Z0L) (Z04 Z0L) (.ref T10) kV10 dc10 pm10 an10 cd10 ct10),sl10⟩)
    (c10:codeIn K cd10 "out_tables" = true)
    (k10:keepIn K (.ref f10)=true)
    (d10:K.lookup T10=some ⟨ocT10,odT10,.seq #[.none] nT10,slT10⟩)
    (a11:nsIn K mainGlobals "sources_of" = some (some (.ref f11)))
    (l11:K.lookup f11=some ⟨oc11,od11,.func (fnOf "sources_of" "sources_of" (Z0b Z15) (Z0a Z15) (Z04 Z15) .none kV11 dc11 pm11 an11 cd11 ct11),sl11⟩)
    (c11:codeIn K cd11 "sources_of" = true)
    (k11:keepIn K (.ref f11)=true)
    (a12:nsIn K mainGlobals "needed" = some (some (.ref f12)))
    (l12:K.lookup f12=some ⟨oc12,od12,.func (fnOf "needed" "needed" (Z0b Z2A) (Z0a Z2A) (Z04 Z2A) .none kV12 dc12 pm12 an12 cd12 ct12),sl12⟩)
    (c12:codeIn K cd12 "needed" = true)
    (k12:keepIn K (.ref f12)=true)
    (a13:nsIn K mainGlobals "bits_to_stick" = some (some (.ref f13)))
    (l13:K.lookup f13=some ⟨oc13,od13,.func (fnOf "bits_to_stick" "bits_to_stick" (Z0b Z0J) (Z0a Z0J) (Z04 Z0J) .none kV13 dc13 pm13 an13 cd13 ct13),sl13⟩)
    (c13:codeIn K cd13 "bits_to_stick" = true)
    (k13:keepIn K (.ref f13)=true)
    (a14:nsIn K mainGlobals "all_faults" = some (some (.ref f14)))
    (l14:K.lookup f14=some ⟨oc14,od14,.func (fnOf "all_faults" "all_faults" (Z0b Z1a) (Z0a Z1a) (Z04 Z1a) .none kV14 dc14 pm14 an14 cd14 ct14),sl14⟩)
    (c14:codeIn K cd14 "all_faults" = true)
    (k14:keepIn K (.ref f14)=true)
    (a15:nsIn K mainGlobals "differing" = some (some (.ref f15)))
    (l15:K.lookup f15=some ⟨oc15,od15,.func (fnOf "differing" "differing" (Z0b Z1u) (Z0a Z1u) (Z04 Z1u) .none kV15 dc15 pm15 an15 cd15 ct15),sl15⟩)
    (c15:codeIn K cd15 "differing" = true)
    (k15:keepIn K (.ref f15)=true)
    (a16:nsIn K mainGlobals "first_idle" = some (some (.ref f16)))
    (l16:K.lookup f16=some ⟨oc16,od16,.func (fnOf "first_idle" "first_idle" (Z0b Z19) (Z0a Z19) (Z04 Z19) .none kV16 dc16 pm16 an16 cd16 ct16),sl16⟩)
    (c16:codeIn K cd16 "first_idle" = true)
    (k16:keepIn K (.ref f16)=true)
    (a17:nsIn K mainGlobals "moved" = some (some (.ref f17)))
    (l17:K.lookup f17=some ⟨oc17,od17,.func (fnOf "moved" "moved" (Z0b Z3c) (Z0a Z3c) (Z04 Z3c) .none kV17 dc17 pm17 an17 cd17 ct17),sl17⟩)
    (c17:codeIn K cd17 "moved" = true)
    (k17:keepIn K (.ref f17)=true)
    (a18:nsIn K mainGlobals "needed_alone" = some (some (.ref f18)))
    (l18:K.lookup f18=some ⟨oc18,od18,.func (fnOf "needed_alone" "needed_alone" (Z0b Z0P) (Z0a Z0P) (Z04 Z0P) .none kV18 dc18 pm18 an18 cd18 ct18),sl18⟩)
    (c18:codeIn K cd18 "needed_alone" = true)
    (k18:keepIn K (.ref f18)=true)
    (a19:nsIn K mainGlobals "plain_row" = some (some (.ref f19)))
    (l19:K.lookup f19=some ⟨oc19,od19,.func (fnOf "plain_row" "plain_row" (Z0b Z1p) (Z0a Z1p) (Z04 Z1p) .none kV19 dc19 pm19 an19 cd19 ct19),sl19⟩)
    (c19:codeIn K cd19 "plain_row" = true)
    (k19:keepIn K (.ref f19)=true)
    (a20:nsIn K mainGlobals "without_spare" = some (some (.ref f20)))
    (l20:K.lookup f20=some ⟨oc20,od20,.func (fnOf "without_spare" "without_spare" (Z0b Z0I) (Z0a Z0I) (Z04 Z0I) .none kV20 dc20 pm20 an20 cd20 ct20),sl20⟩)
    (c20:codeIn K cd20 "without_spare" = true)
    (k20:keepIn K (.ref f20)=true)
    (a21:nsIn K mainGlobals "lean" = some (some (.ref f21)))
    (l21:K.lookup f21=some ⟨oc21,od21,.func (fnOf "lean" "lean" (Z0b Z4n) (Z0a Z4n) (Z04 Z4n) .none kV21 dc21 pm21 an21 cd21 ct21),sl21⟩)
    (c21:codeIn K cd21 "lean" = true)
    (k21:keepIn K (.ref f21)=true)
    (a22:nsIn K mainGlobals "_law_mixed" = some (some (.ref f22)))
    (l22:K.lookup f22=some ⟨oc22,od22,.func (fnOf "_law_mixed" "_law_mixed" (Z0b Z29) (Z0a Z29) (Z04 Z29) .none kV22 dc22 pm22 an22 cd22 ct22),sl22⟩)
    (c22:codeIn K cd22 "_law_mixed" = true)
    (k22:keepIn K (.ref f22)=true)
    (a23:nsIn K mainGlobals "_law_row" = some (some (.ref f23)))
    (l23:K.lookup f23=some ⟨oc23,od23,.func (fnOf "_law_row" "_law_row" (Z0b Z3d) (Z0a Z3d) (Z04 Z3d) .none kV23 dc23 pm23 an23 cd23 ct23),sl23⟩)
    (c23:codeIn K cd23 "_law_row" = true)
    (k23:keepIn K (.ref f23)=true)
    (a24:nsIn K mainGlobals "_law_circuit" = some (some (.ref f24)))
    (l24:K.lookup f24=some ⟨oc24,od24,.func (fnOf "_law_circuit" "_law_circuit" (Z0b Z1s) (Z0a Z1s) (Z04 Z1s) .none kV24 dc24 pm24 an24 cd24 ct24),sl24⟩)
    (c24:codeIn K cd24 "_law_circuit" = true)
    (k24:keepIn K (.ref f24)=true)
    (a25:nsIn K mainGlobals "_law_seen" = some (some (.ref f25)))
    (l25:K.lookup f25=some ⟨oc25,od25,.func (fnOf "_law_seen" "_law_seen" (Z0b Z2B) (Z0a Z2B) (Z04 Z2B) .none kV25 dc25 pm25 an25 cd25 ct25),sl25⟩)
    (c25:codeIn K cd25 "_law_seen" = true)
    (k25:keepIn K (.ref f25)=true)
    (a26:nsIn K mainGlobals "_law_column" = some (some (.ref f26)))
    (l26:K.lookup f26=some ⟨oc26,od26,.func (fnOf "_law_column" "_law_column" (Z0b Z1O) (Z0a Z1O) (Z04 Z1O) .none kV26 dc26 pm26 an26 cd26 ct26),sl26⟩)
    (c26:codeIn K cd26 "_law_column" = true)
    (k26:keepIn K (.ref f26)=true)
    (a27:nsIn K mainGlobals "_law_tables" = some (some (.ref f27)))
    (l27:K.lookup f27=some ⟨oc27,od27,.func (fnOf "_law_tables" "_law_tables" (Z0b Z1L) (Z0a Z1L) (Z04 Z1L) .none kV27 dc27 pm27 an27 cd27 ct27),sl27⟩)
    (c27:codeIn K cd27 "_law_tables" = true)
    (k27:keepIn K (.ref f27)=true)
    (a28:nsIn K mainGlobals "_law_telling" = some (some (.ref f28)))
    (l28:K.lookup f28=some ⟨oc28,od28,.func (fnOf "_law_telling" "_law_telling" (Z0b Z1r) (Z0a Z1r) (Z04 Z1r) .none kV28 dc28 pm28 an28 cd28 ct28),sl28⟩)
    (c28:codeIn K cd28 "_law_telling" = true)
    (k28:keepIn K (.ref f28)=true)
    (a29:nsIn K mainGlobals "_law_legs" = some (some (.ref f29)))
    (l29:K.lookup f29=some ⟨oc29,od29,.func (fnOf "_law_legs" "_law_legs" (Z0b Z2D) (Z0a Z2D) (Z04 Z2D) .none kV29 dc29 pm29 an29 cd29 ct29),sl29⟩)
    (c29:codeIn K cd29 "_law_legs" = true)
    (k29:keepIn K (.ref f29)=true)
    (a30:nsIn K mainGlobals "_law_needed" = some (some (.ref f30)))
    (l30:K.lookup f30=some ⟨oc30,od30,.func (fnOf "_law_needed" "_law_needed" (Z0b Z1M) (Z0a Z1M) (Z04 Z1M) .none kV30 dc30 pm30 an30 cd30 ct30),sl30⟩)
    (c30:codeIn K cd30 "_law_needed" = true)
    (k30:keepIn K (.ref f30)=true)
    (a31:nsIn K mainGlobals "_law_bits_at" = some (some (.ref f31)))
    (l31:K.lookup f31=some ⟨oc31,od31,.func (fnOf "_law_bits_at" "_law_bits_at" (Z0b Z1t) (Z0a Z1t) (Z04 Z1t) .none kV31 dc31 pm31 an31 cd31 ct31),sl31⟩)
    (c31:codeIn K cd31 "_law_bits_at" = true)
    (k31:keepIn K (.ref f31)=true)
    (a32:nsIn K mainGlobals "_law_faults" = some (some (.ref f32)))
    (l32:K.lookup f32=some ⟨oc32,od32,.func (fnOf "_law_faults" "_law_faults" (Z0b Z1N) (Z0a Z1N) (Z04 Z1N) .none kV32 dc32 pm32 an32 cd32 ct32),sl32⟩)
    (c32:codeIn K cd32 "_law_faults" = true)
    (k32:keepIn K (.ref f32)=true)
    (a33:nsIn K mainGlobals "_law_behind" = some (some (.ref f33)))
    (l33:K.lookup f33=some ⟨oc33,od33,.func (fnOf "_law_behind" "_law_behind" (Z0b Z1P) (Z0a Z1P) (Z04 Z1P) .none kV33 dc33 pm33 an33 cd33 ct33),sl33⟩)
    (c33:codeIn K cd33 "_law_behind" = true)
    (k33:keepIn K (.ref f33)=true)
    (a34:nsIn K mainGlobals "_law_idle" = some (some (.ref f34)))
    (l34:K.lookup f34=some ⟨oc34,od34,.func (fnOf "_law_idle" "_law_idle" (Z0b Z2E) (Z0a Z2E) (Z04 Z2E) .none kV34 dc34 pm34 an34 cd34 ct34),sl34⟩)
    (c34:codeIn K cd34 "_law_idle" = true)
    (k34:keepIn K (.ref f34)=true)
    (a35:nsIn K mainGlobals "_law_same" = some (some (.ref f35)))
    (l35:K.lookup f35=some ⟨oc35,od35,.func (fnOf "_law_same" "_law_same" (Z0b Z2C) (Z0a Z2C) (Z04 Z2C) .none kV35 dc35 pm35 an35 cd35 ct35),sl35⟩)
    (c35:codeIn K cd35 "_law_same" = true)
    (k35:keepIn K (.ref f35)=true)
    (a36:nsIn K mainGlobals "law" = some (some (.ref f36)))
    (l36:K.lookup f36=some ⟨oc36,od36,.func (fnOf "law" "law" (Z0b Z57) (Z0a Z57) (Z04 Z57) .none kV36 dc36 pm36 an36 cd36 ct36),sl36⟩)
    (c36:codeIn K cd36 "law" = true)
    (k36:keepIn K (.ref f36)=true)
    (y_enumerate:nsIn K mainGlobals "enumerate" = some none)
    (y_int:nsIn K mainGlobals "int" = some none)
    (y_isinstance:nsIn K mainGlobals "isinstance" = some none)
    (y_len:nsIn K mainGlobals "len" = some none)
    (y_list:nsIn K mainGlobals "list" = some none)
    (y_min:nsIn K mainGlobals "min" = some none)
    (y_range:nsIn K mainGlobals "range" = some none)
    (y_sorted:nsIn K mainGlobals "sorted" = some none)
    (y_sum:nsIn K mainGlobals "sum" = some none)
    (y_tuple:nsIn K mainGlobals "tuple" = some none)
    (y_zip:nsIn K mainGlobals "zip" = some none)
    (hI1_Circuit:PySem.W.findIn K (.ref C_Circuit) "__class__" = some (some (.builtin "object.__class__")))
    (hI2_Circuit:PySem.W.specialIn K (.builtin "object.__class__") "__get__" = some (some (.builtin "getset_descriptor.__get__")))
    (hI3_Circuit:PySem.W.takesIn K (.builtin "object.__class__")=some true)
    (hI4_Circuit:PySem.W.mroIn K C_Circuit (.type "object")=some true) :
    ∃ (fd:FuncData) (m:List D -> Option D),(∀ (s:Shared) (u:Value),BindsTo s fd ⟨[u],[]⟩ [("_law_script",u)]) /\ (∀ ns:List Int,ns.length <= 63 -> (∀ i ∈ ns,Builtin.Int.intBits i <= 1048576) -> m [.lst (ns.map D.int)]=some (.bl true)) /\
      ∀ base:Heap,K.In base -> base.Ns mainGlobals mg -> FnOk l.prog w K mg base CX0 8 fa fd ["_law_script"] (spD K 1 m):=by
  have e:=hfa.symm.trans (mg_of X G a36)
  cases e
  have z_enumerate:=PySem.W.mg_none_of X G y_enumerate
  have z_int:=PySem.W.mg_none_of X G y_int
  have z_isinstance:=PySem.W.mg_none_of X G y_isinstance
  have z_len:=PySem.W.mg_none_of X G y_len
  have z_list:=PySem.W.mg_none_of X G y_list
  have z_min:=PySem.W.mg_none_of X G y_min
  have z_range:=PySem.W.mg_none_of X G y_range
  have z_sorted:=PySem.W.mg_none_of X G y_sorted
  have z_sum:=PySem.W.mg_none_of X G y_sum
  have z_tuple:=PySem.W.mg_none_of X G y_tuple
  have z_zip:=PySem.W.mg_none_of X G y_zip
  have hC_Circuit:Cls K C_Circuit:=⟨pg_Circuit,hd_Circuit,po_Circuit,sa_Circuit⟩
  have F0:=Z0t (st:=Z0R) l0 c0 k0
  have b0:Binds K _ ["self","ins","rows","outs"] []:=.all (fd:=fnOf "__init__" "Circuit.__init__" (Z0b Z0R) (Z0a Z0R) (Z04 Z0R) .none kV0 dc0 pm0 an0 cd0 ct0) (us4 fun _ _ _ _=>rfl)
  have is_Circuit:ClsI K C_Circuit:=⟨hC_Circuit,hI1_Circuit,hI2_Circuit,hI3_Circuit,hI4_Circuit⟩
  have mc_Circuit:=mg_of X G aC_Circuit
  have F1:=Z0t (st:=Z17) l1 c1 k1
  have b1:Binds K (fnOf "gate_value" "gate_value" (Z0b Z17) (Z0a Z17) (Z04 Z17) .none kV1 dc1 pm1 an1 cd1 ct1) ["row","legs","ones"] []:=.all (us3 fun _ _ _=>rfl)
  have F2:=Z0t (st:=Z1q) l2 c2 k2
  have b2:Binds K (fnOf "leg_wires" "leg_wires" (Z0b Z1q) (Z0a Z1q) (Z04 Z1q) .none kV2 dc2 pm2 an2 cd2 ct2) ["row"] []:=.all (us1 fun _=>rfl)
  have F3:=Z0t (st:=Z16) l3 c3 k3
  have b3:Binds K (fnOf "leg_values" "leg_values" (Z0b Z16) (Z0a Z16) (Z04 Z16) .none kV3 dc3 pm3 an3 cd3 ct3) ["row","wire","values","ones","fault"] []:=.all (us5 fun _ _ _ _ _=>rfl)
  have F4:=Z0t (st:=Z28) l4 c4 k4
  have b4:Binds K (fnOf "on_wire" "on_wire" (Z0b Z28) (Z0a Z28) (Z04 Z28) .none kV4 dc4 pm4 an4 cd4 ct4) ["value","wire","ones","fault"] []:=.all (us4 fun _ _ _ _=>rfl)
  have F5:=Z0t (st:=Z3e) l5 c5 k5
  have b5:Binds K (fnOf "borne" "borne" (Z0b Z3e) (Z0a Z3e) (Z04 Z3e) .none kV5 dc5 pm5 an5 cd5 ct5) ["circuit","starts","ones","fault"] []:=.all (us4 fun _ _ _ _=>rfl)
  have F6:=Z0t (st:=Z18) l6 c6 k6
  have b6:Binds K (fnOf "full_table" "full_table" (Z0b Z18) (Z0a Z18) (Z04 Z18) .none kV6 dc6 pm6 an6 cd6 ct6) ["ins"] []:=.all (us1 fun _=>rfl)
  have F7:=Z0t (st:=Z0Q) l7 c7 k7
  have b7:Binds K (fnOf "input_tables" "input_tables" (Z0b Z0Q) (Z0a Z0Q) (Z04 Z0Q) .none kV7 dc7 pm7 an7 cd7 ct7) ["ins"] []:=.all (us1 fun _=>rfl)
  have F8:=Z0t (st:=Z1Z) l8 c8 k8
  have b8:Binds K (fnOf "tables" "tables" (Z0b Z1Z) (Z0a Z1Z) (Z04 Z1Z) (.ref T8) kV8 dc8 pm8 an8 cd8 ct8) ["circuit","fault"] []:=fun s us ks hl=>match us,hl with | [_,_],_=>.of_defaults rfl (ks _ _ d8) rfl rfl rfl
  have bd8:Binds K (fnOf "tables" "tables" (Z0b Z1Z) (Z0a Z1Z) (Z04 Z1Z) (.ref T8) kV8 dc8 pm8 an8 cd8 ct8) ["circuit","fault"] [.none]:=fun s us ks hl=>(match us,(show us.length=1 by simpa using hl) with | [_],_=>.of_defaults rfl (ks _ _ d8) rfl rfl rfl)
  have F9:=Z0t (st:=Z2a) l9 c9 k9
  have b9:Binds K (fnOf "at_outs" "at_outs" (Z0b Z2a) (Z0a Z2a) (Z04 Z2a) .none kV9 dc9 pm9 an9 cd9 ct9) ["circuit","values"] []:=.all (us2 fun _ _=>rfl)
  have F10:=Z0t (st:=Z0L) l10 c10 k10
  have b10:Binds K (fnOf "out_tables" "out_tables" (Z0b Z0L) (Z0a Z0L) (Z04 Z0L) (.ref T10) kV10 dc10 pm10 an10 cd10 ct10) ["circuit","fault"] []:=fun s us ks hl=>match us,hl with | [_,_],_=>.of_defaults rfl (ks _ _ d10) rfl rfl rfl
  have bd10:Binds K (fnOf "out_tables" "out_tables" (Z0b Z0L) (Z0a Z0L) (Z04 Z0L) (.ref T10) kV10 dc10 pm10 an10 cd10 ct10) ["circuit","fault"] [.none]:=fun s us ks hl=>(match us,(show us.length=1 by simpa using hl) with | [_],_=>.of_defaults rfl (ks _ _ d10) rfl rfl rfl)
  have F11:=Z0t (st:=Z15) l11 c11 k11
  have b11:Binds K (fnOf "sources_of" "sources_of" (Z0b Z15) (Z0a Z15) (Z04 Z15) .none kV11 dc11 pm11 an11 cd11 ct11) ["circuit","wire"] []:=.all (us2 fun _ _=>rfl)
  have F12:=Z0t (st:=Z2A) l12 c12 k12
  have b12:Binds K (fnOf "needed" "needed" (Z0b Z2A) (Z0a Z2A) (Z04 Z2A) .none kV12 dc12 pm12 an12 cd12 ct12) ["circuit"] []:=.all (us1 fun _=>rfl)
  have F13:=Z0t (st:=Z0J) l13 c13 k13
  have b13:Binds K (fnOf "bits_to_stick" "bits_to_stick" (Z0b Z0J) (Z0a Z0J) (Z04 Z0J) .none kV13 dc13 pm13 an13 cd13 ct13) ["circuit","wire"] []:=.all (us2 fun _ _=>rfl)
  have F14:=Z0t (st:=Z1a) l14 c14 k14
  have b14:Binds K (fnOf "all_faults" "all_faults" (Z0b Z1a) (Z0a Z1a) (Z04 Z1a) .none kV14 dc14 pm14 an14 cd14 ct14) ["circuit"] []:=.all (us1 fun _=>rfl)
  have F15:=Z0t (st:=Z1u) l15 c15 k15
  have b15:Binds K (fnOf "differing" "differing" (Z0b Z1u) (Z0a Z1u) (Z04 Z1u) .none kV15 dc15 pm15 an15 cd15 ct15) ["one_tables","other_tables"] []:=.all (us2 fun _ _=>rfl)
  have F16:=Z0t (st:=Z19) l16 c16 k16
  have b16:Binds K (fnOf "first_idle" "first_idle" (Z0b Z19) (Z0a Z19) (Z04 Z19) .none kV16 dc16 pm16 an16 cd16 ct16) ["circuit"] []:=.all (us1 fun _=>rfl)
  have F17:=Z0t (st:=Z3c) l17 c17 k17
  have b17:Binds K (fnOf "moved" "moved" (Z0b Z3c) (Z0a Z3c) (Z04 Z3c) .none kV17 dc17 pm17 an17 cd17 ct17) ["row","places"] []:=.all (us2 fun _ _=>rfl)
  have F18:=Z0t (st:=Z0P) l18 c18 k18
  have b18:Binds K (fnOf "needed_alone" "needed_alone" (Z0b Z0P) (Z0a Z0P) (Z04 Z0P) .none kV18 dc18 pm18 an18 cd18 ct18) ["circuit"] []:=.all (us1 fun _=>rfl)
  have F19:=Z0t (st:=Z1p) l19 c19 k19
  have b19:Binds K (fnOf "plain_row" "plain_row" (Z0b Z1p) (Z0a Z1p) (Z04 Z1p) .none kV19 dc19 pm19 an19 cd19 ct19) ["kind","legs","ones","bearers"] []:=.all (us4 fun _ _ _ _=>rfl)
  have F20:=Z0t (st:=Z0I) l20 c20 k20
  have b20:Binds K (fnOf "without_spare" "without_spare" (Z0b Z0I) (Z0a Z0I) (Z04 Z0I) .none kV20 dc20 pm20 an20 cd20 ct20) ["circuit","fault"] []:=.all (us2 fun _ _=>rfl)
  have F21:=Z0t (st:=Z4n) l21 c21 k21
  have b21:Binds K (fnOf "lean" "lean" (Z0b Z4n) (Z0a Z4n) (Z04 Z4n) .none kV21 dc21 pm21 an21 cd21 ct21) ["circuit"] []:=.all (us1 fun _=>rfl)
  have F22:=Z0t (st:=Z29) l22 c22 k22
  have b22:Binds K (fnOf "_law_mixed" "_law_mixed" (Z0b Z29) (Z0a Z29) (Z04 Z29) .none kV22 dc22 pm22 an22 cd22 ct22) ["_law_cell","_law_k"] []:=.all (us2 fun _ _=>rfl)
  have F23:=Z0t (st:=Z3d) l23 c23 k23
  have b23:Binds K (fnOf "_law_row" "_law_row" (Z0b Z3d) (Z0a Z3d) (Z04 Z3d) .none kV23 dc23 pm23 an23 cd23 ct23) ["_law_mixed_here","_law_wires","_law_near"] []:=.all (us3 fun _ _ _=>rfl)
  have F24:=Z0t (st:=Z1s) l24 c24 k24
  have b24:Binds K (fnOf "_law_circuit" "_law_circuit" (Z0b Z1s) (Z0a Z1s) (Z04 Z1s) .none kV24 dc24 pm24 an24 cd24 ct24) ["_law_cells","_law_ins","_law_most","_law_many"] []:=.all (us4 fun _ _ _ _=>rfl)
  have F25:=Z0t (st:=Z2B) l25 c25 k25
  have b25:Binds K (fnOf "_law_seen" "_law_seen" (Z0b Z2B) (Z0a Z2B) (Z04 Z2B) .none kV25 dc25 pm25 an25 cd25 ct25) ["_law_found","_law_row_here","_law_wire","_law_leg","_law_fault","_law_most"] []:=.all (us6 fun _ _ _ _ _ _=>rfl)
  have F26:=Z0t (st:=Z1O) l26 c26 k26
  have b26:Binds K (fnOf "_law_column" "_law_column" (Z0b Z1O) (Z0a Z1O) (Z04 Z1O) .none kV26 dc26 pm26 an26 cd26 ct26) ["_law_found","_law_row_here","_law_wire","_law_fault","_law_most"] []:=.all (us5 fun _ _ _ _ _=>rfl)
  have F27:=Z0t (st:=Z1L) l27 c27 k27
  have b27:Binds K (fnOf "_law_tables" "_law_tables" (Z0b Z1L) (Z0a Z1L) (Z04 Z1L) .none kV27 dc27 pm27 an27 cd27 ct27) ["_law_ins","_law_rows","_law_fault"] []:=.all (us3 fun _ _ _=>rfl)
  have F28:=Z0t (st:=Z1r) l28 c28 k28
  have b28:Binds K (fnOf "_law_telling" "_law_telling" (Z0b Z1r) (Z0a Z1r) (Z04 Z1r) .none kV28 dc28 pm28 an28 cd28 ct28) ["_law_ins","_law_rows","_law_outs","_law_fault"] []:=.all (us4 fun _ _ _ _=>rfl)
  have F29:=Z0t (st:=Z2D) l29 c29 k29
  have b29:Binds K (fnOf "_law_legs" "_law_legs" (Z0b Z2D) (Z0a Z2D) (Z04 Z2D) .none kV29 dc29 pm29 an29 cd29 ct29) ["_law_ins","_law_rows","_law_wire"] []:=.all (us3 fun _ _ _=>rfl)
  have F30:=Z0t (st:=Z1M) l30 c30 k30
  have b30:Binds K (fnOf "_law_needed" "_law_needed" (Z0b Z1M) (Z0a Z1M) (Z04 Z1M) .none kV30 dc30 pm30 an30 cd30 ct30) ["_law_ins","_law_rows","_law_outs"] []:=.all (us3 fun _ _ _=>rfl)
  have F31:=Z0t (st:=Z1t) l31 c31 k31
  have b31:Binds K (fnOf "_law_bits_at" "_law_bits_at" (Z0b Z1t) (Z0a Z1t) (Z04 Z1t) .none kV31 dc31 pm31 an31 cd31 ct31) ["_law_ins","_law_rows","_law_wire"] []:=.all (us3 fun _ _ _=>rfl)
  have F32:=Z0t (st:=Z1N) l32 c32 k32
  have b32:Binds K (fnOf "_law_faults" "_law_faults" (Z0b Z1N) (Z0a Z1N) (Z04 Z1N) .none kV32 dc32 pm32 an32 cd32 ct32) ["_law_ins","_law_rows","_law_outs"] []:=.all (us3 fun _ _ _=>rfl)
  have F33:=Z0t (st:=Z1P) l33 c33 k33
  have b33:Binds K (fnOf "_law_behind" "_law_behind" (Z0b Z1P) (Z0a Z1P) (Z04 Z1P) .none kV33 dc33 pm33 an33 cd33 ct33) ["_law_rows","_law_ins","_law_wire","_law_mixed_here"] []:=.all (us4 fun _ _ _ _=>rfl)
  have F34:=Z0t (st:=Z2E) l34 c34 k34
  have b34:Binds K (fnOf "_law_idle" "_law_idle" (Z0b Z2E) (Z0a Z2E) (Z04 Z2E) .none kV34 dc34 pm34 an34 cd34 ct34) ["_law_found"] []:=.all (us1 fun _=>rfl)
  have F35:=Z0t (st:=Z2C) l35 c35 k35
  have b35:Binds K (fnOf "_law_same" "_law_same" (Z0b Z2C) (Z0a Z2C) (Z04 Z2C) .none kV35 dc35 pm35 an35 cd35 ct35) ["_law_found","_law_due"] []:=.all (us2 fun _ _=>rfl)
  have F36:=Z0t (st:=Z57) l36 c36 k36
  have b36:Binds K (fnOf "law" "law" (Z0b Z57) (Z0a Z57) (Z04 Z57) .none kV36 dc36 pm36 an36 cd36 ct36) ["_law_script"] []:=.all (us1 fun _=>rfl)
  refine ⟨fnOf "law" "law" (Z0b Z57) (Z0a Z57) (Z04 Z57) .none kV36 dc36 pm36 an36 cd36 ct36,Ze6 C_Circuit,fun s u=>.of_eq rfl,Zcn,fun base KB NB=>?_⟩
  have mk_Circuit:ZbJ l.prog w K mg base "Circuit" C_Circuit 1 3 (Z1d C_Circuit):=⟨⟨f0,_,_,⟨mk_Circuit,a0,i0,kc_Circuit⟩,Z5y F0 z_list z_tuple hC_Circuit nA_ins nA_rows nA_outs,mg_of X G aC_Circuit,b0⟩⟩
  have G1:FnOk l.prog w K mg base CX0 1 f1 _ _ (spD K 3 (Z0X C_Circuit)):=Z6M (C:=C_Circuit) F1
  have Cc1:Z0c l.prog w K mg base "gate_value" [] 1 3 (Z0X C_Circuit):=⟨⟨f1,_,_,[],[],G1,mg_of X G a1,k1,b1,.nil,fun _=>rps0⟩⟩
  have G2:FnOk l.prog w K mg base CX0 1 f2 _ _ (spD K 1 (Z0C C_Circuit)):=Z7v (C:=C_Circuit) F2 z_list
  have Cc2:Z0c l.prog w K mg base "leg_wires" [] 1 1 (Z0C C_Circuit):=⟨⟨f2,_,_,[],[],G2,mg_of X G a2,k2,b2,.nil,fun _=>rps0⟩⟩
  have G3:FnOk l.prog w K mg base CX0 2 f3 _ _ (spD K 5 (Z0E C_Circuit)):=Z6L (C:=C_Circuit) F3 Cc2
  have Cc3:Z0c l.prog w K mg base "leg_values" [] 2 5 (Z0E C_Circuit):=⟨⟨f3,_,_,[],[],G3,mg_of X G a3,k3,b3,.nil,fun _=>rps0⟩⟩
  have G4:FnOk l.prog w K mg base CX0 1 f4 _ _ (spD K 4 (Z1x C_Circuit)):=Z9v (C:=C_Circuit) F4
  have Cc4:Z0c l.prog w K mg base "on_wire" [] 1 4 (Z1x C_Circuit):=⟨⟨f4,_,_,[],[],G4,mg_of X G a4,k4,b4,.nil,fun _=>rps0⟩⟩
  have G5:FnOk l.prog w K mg base CX0 3 f5 _ _ (spD K 4 (Z4O C_Circuit)):=Zce (C:=C_Circuit) F5 Cc1 Cc3 Cc4 z_len hC_Circuit nA_rows
  have Cc5:Z0c l.prog w K mg base "borne" [] 3 4 (Z4O C_Circuit):=⟨⟨f5,_,_,[],[],G5,mg_of X G a5,k5,b5,.nil,fun _=>rps0⟩⟩
  have G6:FnOk l.prog w K mg base CX0 1 f6 _ _ (spD K 1 (Z0T C_Circuit)):=Z6N (C:=C_Circuit) F6
  have Cc6:Z0c l.prog w K mg base "full_table" [] 1 1 (Z0T C_Circuit):=⟨⟨f6,_,_,[],[],G6,mg_of X G a6,k6,b6,.nil,fun _=>rps0⟩⟩
  have G7:FnOk l.prog w K mg base CX0 2 f7 _ _ (spD K 1 (Z0W C_Circuit)):=Z5x (C:=C_Circuit) F7 Cc6 z_range
  have Cc7:Z0c l.prog w K mg base "input_tables" [] 2 1 (Z0W C_Circuit):=⟨⟨f7,_,_,[],[],G7,mg_of X G a7,k7,b7,.nil,fun _=>rps0⟩⟩
  have G8:FnOk l.prog w K mg base CX0 4 f8 _ _ (spD K 2 (Z2F C_Circuit)):=ZaJ (C:=C_Circuit) F8 Cc5 Cc6 Cc7 hC_Circuit nA_ins
  have Cc8:Z0c l.prog w K mg base "tables" [] 4 2 (Z2F C_Circuit):=⟨⟨f8,_,_,[],[],G8,mg_of X G a8,k8,b8,.nil,fun _=>rps0⟩⟩
  have Cc_tables_d:Z0c l.prog w K mg base "tables" [.non] 4 2 (Z2F C_Circuit):=⟨⟨f8,_,_,[.non],[.none],G8,mg_of X G a8,k8,bd8,.cons rfl .nil,fun H=>by simp only [Reps]; exact ⟨.non,[],[],[],rfl,rfl,Z8U,rfl,rfl⟩⟩⟩
  have G9:FnOk l.prog w K mg base CX0 1 f9 _ _ (spD K 2 (Z35 C_Circuit)):=Z9x (C:=C_Circuit) F9 hC_Circuit nA_outs
  have Cc9:Z0c l.prog w K mg base "at_outs" [] 1 2 (Z35 C_Circuit):=⟨⟨f9,_,_,[],[],G9,mg_of X G a9,k9,b9,.nil,fun _=>rps0⟩⟩
  have G10:FnOk l.prog w K mg base CX0 5 f10 _ _ (spD K 2 (Z0S C_Circuit)):=Z6K (C:=C_Circuit) F10 Cc9 Cc8
  have Cc10:Z0c l.prog w K mg base "out_tables" [] 5 2 (Z0S C_Circuit):=⟨⟨f10,_,_,[],[],G10,mg_of X G a10,k10,b10,.nil,fun _=>rps0⟩⟩
  have Cc_out_tables_d:Z0c l.prog w K mg base "out_tables" [.non] 5 2 (Z0S C_Circuit):=⟨⟨f10,_,_,[.non],[.none],G10,mg_of X G a10,k10,bd10,.cons rfl .nil,fun H=>by simp only [Reps]; exact ⟨.non,[],[],[],rfl,rfl,Z8U,rfl,rfl⟩⟩⟩
  have G11:FnOk l.prog w K mg base CX0 2 f11 _ _ (spD K 2 (Z0M C_Circuit)):=Z6J (C:=C_Circuit) F11 Cc2 hC_Circuit nA_ins nA_rows
  have Cc11:Z0c l.prog w K mg base "sources_of" [] 2 2 (Z0M C_Circuit):=⟨⟨f11,_,_,[],[],G11,mg_of X G a11,k11,b11,.nil,fun _=>rps0⟩⟩
  have G12:FnOk l.prog w K mg base CX0 3 f12 _ _ (spD K 1 (Z2p C_Circuit)):=ZaK (C:=C_Circuit) F12 Cc11 z_len z_range z_sorted hC_Circuit nA_ins nA_outs nA_rows
  have Cc12:Z0c l.prog w K mg base "needed" [] 3 1 (Z2p C_Circuit):=⟨⟨f12,_,_,[],[],G12,mg_of X G a12,k12,b12,.nil,fun _=>rps0⟩⟩
  have G13:FnOk l.prog w K mg base CX0 1 f13 _ _ (spD K 2 (Z0k C_Circuit)):=Z5a (C:=C_Circuit) F13 hC_Circuit nA_ins nA_rows
  have Cc13:Z0c l.prog w K mg base "bits_to_stick" [] 1 2 (Z0k C_Circuit):=⟨⟨f13,_,_,[],[],G13,mg_of X G a13,k13,b13,.nil,fun _=>rps0⟩⟩
  have G14:FnOk l.prog w K mg base CX0 4 f14 _ _ (spD K 1 (Z27 C_Circuit)):=Z6P (C:=C_Circuit) F14 Cc13 Cc12 Cc11 z_enumerate
  have Cc14:Z0c l.prog w K mg base "all_faults" [] 4 1 (Z27 C_Circuit):=⟨⟨f14,_,_,[],[],G14,mg_of X G a14,k14,b14,.nil,fun _=>rps0⟩⟩
  have G15:FnOk l.prog w K mg base CX0 1 f15 _ _ (spD K 2 (Z1w C_Circuit)):=Z7z (C:=C_Circuit) F15 z_zip
  have Cc15:Z0c l.prog w K mg base "differing" [] 1 2 (Z1w C_Circuit):=⟨⟨f15,_,_,[],[],G15,mg_of X G a15,k15,b15,.nil,fun _=>rps0⟩⟩
  have G16:FnOk l.prog w K mg base CX0 6 f16 _ _ (spD K 1 (Z1J C_Circuit)):=Z6O (C:=C_Circuit) F16 Cc14 Cc15 Cc_out_tables_d Cc10
  have Cc16:Z0c l.prog w K mg base "first_idle" [] 6 1 (Z1J C_Circuit):=⟨⟨f16,_,_,[],[],G16,mg_of X G a16,k16,b16,.nil,fun _=>rps0⟩⟩
  have G17:FnOk l.prog w K mg base CX0 2 f17 _ _ (spD K 2 (Z4c C_Circuit)):=Zcc (C:=C_Circuit) F17 Cc2 z_tuple
  have Cc17:Z0c l.prog w K mg base "moved" [] 2 2 (Z4c C_Circuit):=⟨⟨f17,_,_,[],[],G17,mg_of X G a17,k17,b17,.nil,fun _=>rps0⟩⟩
  have G18:FnOk l.prog w K mg base CX0 4 f18 _ _ (spD K 1 (Z1z C_Circuit)):=Z5w (C:=C_Circuit) F18 Cc17 Cc12 mk_Circuit z_len z_range hC_Circuit nA_ins nA_outs nA_rows
  have Cc18:Z0c l.prog w K mg base "needed_alone" [] 4 1 (Z1z C_Circuit):=⟨⟨f18,_,_,[],[],G18,mg_of X G a18,k18,b18,.nil,fun _=>rps0⟩⟩
  have G19:FnOk l.prog w K mg base CX0 1 f19 _ _ (spD K 4 (Z1I C_Circuit)):=Z7u (C:=C_Circuit) F19 z_tuple
  have Cc19:Z0c l.prog w K mg base "plain_row" [] 1 4 (Z1I C_Circuit):=⟨⟨f19,_,_,[],[],G19,mg_of X G a19,k19,b19,.nil,fun _=>rps0⟩⟩
  have G20:FnOk l.prog w K mg base CX0 5 f20 _ _ (spD K 2 (Z13 C_Circuit)):=Z59 (C:=C_Circuit) F20 Cc6 Cc7 Cc3 Cc12 Cc18 Cc19 Cc8 mk_Circuit z_enumerate z_len hC_Circuit nA_ins nA_outs nA_rows
  have Cc20:Z0c l.prog w K mg base "without_spare" [] 5 2 (Z13 C_Circuit):=⟨⟨f20,_,_,[],[],G20,mg_of X G a20,k20,b20,.nil,fun _=>rps0⟩⟩
  have G21:FnOk l.prog w K mg base CX0 7 f21 _ _ (spD K 1 (Z50 C_Circuit)):=ZdY (C:=C_Circuit) F21 Cc16 Cc20
  have Cc21:Z0c l.prog w K mg base "lean" [] 7 1 (Z50 C_Circuit):=⟨⟨f21,_,_,[],[],G21,mg_of X G a21,k21,b21,.nil,fun _=>rps0⟩⟩
  have G22:FnOk l.prog w K mg base CX0 1 f22 _ _ (spD K 2 (Z1c C_Circuit)):=Z9w (C:=C_Circuit) F22
  have Cc22:Z0c l.prog w K mg base "_law_mixed" [] 1 2 (Z1c C_Circuit):=⟨⟨f22,_,_,[],[],G22,mg_of X G a22,k22,b22,.nil,fun _=>rps0⟩⟩
  have G23:FnOk l.prog w K mg base CX0 1 f23 _ _ (spD K 3 (Z3I C_Circuit)):=Zcd (C:=C_Circuit) F23 z_min
  have Cc23:Z0c l.prog w K mg base "_law_row" [] 1 3 (Z3I C_Circuit):=⟨⟨f23,_,_,[],[],G23,mg_of X G a23,k23,b23,.nil,fun _=>rps0⟩⟩
  have G24:FnOk l.prog w K mg base CX0 2 f24 _ _ (spD K 4 (Z22 C_Circuit)):=Z7x (C:=C_Circuit) F24 Cc22 Cc23 z_enumerate z_int z_len z_range z_sum
  have Cc24:Z0c l.prog w K mg base "_law_circuit" [] 2 4 (Z22 C_Circuit):=⟨⟨f24,_,_,[],[],G24,mg_of X G a24,k24,b24,.nil,fun _=>rps0⟩⟩
  have G25:FnOk l.prog w K mg base CX0 1 f25 _ _ (spD K 6 (Z3h C_Circuit)):=ZaL (C:=C_Circuit) F25
  have Cc25:Z0c l.prog w K mg base "_law_seen" [] 1 6 (Z3h C_Circuit):=⟨⟨f25,_,_,[],[],G25,mg_of X G a25,k25,b25,.nil,fun _=>rps0⟩⟩
  have G26:FnOk l.prog w K mg base CX0 2 f26 _ _ (spD K 5 (Z1R C_Circuit)):=Z8e (C:=C_Circuit) F26 Cc25
  have Cc26:Z0c l.prog w K mg base "_law_column" [] 2 5 (Z1R C_Circuit):=⟨⟨f26,_,_,[],[],G26,mg_of X G a26,k26,b26,.nil,fun _=>rps0⟩⟩
  have G27:FnOk l.prog w K mg base CX0 3 f27 _ _ (spD K 3 (Z0U C_Circuit)):=Z8b (C:=C_Circuit) F27 Cc26 z_len z_range z_sum
  have Cc27:Z0c l.prog w K mg base "_law_tables" [] 3 3 (Z0U C_Circuit):=⟨⟨f27,_,_,[],[],G27,mg_of X G a27,k27,b27,.nil,fun _=>rps0⟩⟩
  have G28:FnOk l.prog w K mg base CX0 4 f28 _ _ (spD K 4 (Z1v C_Circuit)):=Z7w (C:=C_Circuit) F28 Cc27
  have Cc28:Z0c l.prog w K mg base "_law_telling" [] 4 4 (Z1v C_Circuit):=⟨⟨f28,_,_,[],[],G28,mg_of X G a28,k28,b28,.nil,fun _=>rps0⟩⟩
  have G29:FnOk l.prog w K mg base CX0 1 f29 _ _ (spD K 3 (Z2G C_Circuit)):=ZaN (C:=C_Circuit) F29 z_list
  have Cc29:Z0c l.prog w K mg base "_law_legs" [] 1 3 (Z2G C_Circuit):=⟨⟨f29,_,_,[],[],G29,mg_of X G a29,k29,b29,.nil,fun _=>rps0⟩⟩
  have G30:FnOk l.prog w K mg base CX0 2 f30 _ _ (spD K 3 (Z2l C_Circuit)):=Z8c (C:=C_Circuit) F30 Cc29 z_len z_sorted
  have Cc30:Z0c l.prog w K mg base "_law_needed" [] 2 3 (Z2l C_Circuit):=⟨⟨f30,_,_,[],[],G30,mg_of X G a30,k30,b30,.nil,fun _=>rps0⟩⟩
  have G31:FnOk l.prog w K mg base CX0 1 f31 _ _ (spD K 3 (Z1g C_Circuit)):=Z7y (C:=C_Circuit) F31
  have Cc31:Z0c l.prog w K mg base "_law_bits_at" [] 1 3 (Z1g C_Circuit):=⟨⟨f31,_,_,[],[],G31,mg_of X G a31,k31,b31,.nil,fun _=>rps0⟩⟩
  have G32:FnOk l.prog w K mg base CX0 3 f32 _ _ (spD K 3 (Z2m C_Circuit)):=Z8d (C:=C_Circuit) F32 Cc31 Cc29 Cc30 z_enumerate
  have Cc32:Z0c l.prog w K mg base "_law_faults" [] 3 3 (Z2m C_Circuit):=⟨⟨f32,_,_,[],[],G32,mg_of X G a32,k32,b32,.nil,fun _=>rps0⟩⟩
  have G33:FnOk l.prog w K mg base CX0 1 f33 _ _ (spD K 4 (Z26 C_Circuit)):=Z8f (C:=C_Circuit) F33 z_len
  have Cc33:Z0c l.prog w K mg base "_law_behind" [] 1 4 (Z26 C_Circuit):=⟨⟨f33,_,_,[],[],G33,mg_of X G a33,k33,b33,.nil,fun _=>rps0⟩⟩
  have G34:FnOk l.prog w K mg base CX0 5 f34 _ _ (spD K 1 (Z3X C_Circuit)):=ZaO (C:=C_Circuit) F34 Cc32 Cc28 hC_Circuit nA_ins nA_outs nA_rows
  have Cc34:Z0c l.prog w K mg base "_law_idle" [] 5 1 (Z3X C_Circuit):=⟨⟨f34,_,_,[],[],G34,mg_of X G a34,k34,b34,.nil,fun _=>rps0⟩⟩
  have G35:FnOk l.prog w K mg base CX0 4 f35 _ _ (spD K 2 (Z3W C_Circuit)):=ZaM (C:=C_Circuit) F35 Cc27 hC_Circuit nA_ins nA_outs nA_rows
  have Cc35:Z0c l.prog w K mg base "_law_same" [] 4 2 (Z3W C_Circuit):=⟨⟨f35,_,_,[],[],G35,mg_of X G a35,k35,b35,.nil,fun _=>rps0⟩⟩
  exact Zf6 (C:=C_Circuit) F36 Cc33 Cc24 Cc34 Cc22 Cc35 Cc27 Cc21 mk_Circuit z_enumerate z_isinstance z_len z_list z_sum hC_Circuit nA_rows is_Circuit mc_Circuit
end G
open PySem PySem.W PyProof.Rows
set_option maxRecDepth 100000 in
set_option maxHeartbeats 0 in
theorem PySem.Challenge.cw_stuckwire_k31_lean_of_doubled_circuits_holds : PySem.Challenge.rw_stuckwire_k31_lean_of_doubled_circuits.Holds := by
  w_on; o_law; k_head; (case hw => w_witness2)
  k_fill
  refine PD.walkD (l := PySem.Challenge.rw_stuckwire_k31_lean_of_doubled_circuits) (n := 63) (k := 8) (x := "_law_script") rfl (by decide) rfl ⟨rfl, by decide, by decide⟩ (fun w h Y => PySem.W.kIn_of Y) ?F
  case F =>
    intro w mg fa h KX GX hmg
    refine' G.head_mk KX GX hmg ?_ ?_ ?_ ?_ ?_ ?_ ?_ ?_ ?_ ?_ ?_ ?_ ?_ ?_ ?_ ?_ ?_ ?_ ?_ ?_ ?_ ?_ ?_ ?_ ?_ ?_ ?_ ?_ ?_ ?_ ?_ ?_ ?_ ?_ ?_ ?_ ?_ ?_ ?_ ?_ ?_ ?_ ?_ ?_ ?_ ?_ ?_ ?_ ?_ ?_ ?_ ?_ ?_ ?_ ?_ ?_ ?_ ?_ ?_ ?_ ?_ ?_ ?_ ?_ ?_ ?_ ?_ ?_ ?_ ?_ ?_ ?_ ?_ ?_ ?_ ?_ ?_ ?_ ?_ ?_ ?_ ?_ ?_ ?_ ?_ ?_ ?_ ?_ ?_ ?_ ?_ ?_ ?_ ?_ ?_ ?_ ?_ ?_ ?_ ?_ ?_ ?_ ?_ ?_ ?_ ?_ ?_ ?_ ?_ ?_ ?_ ?_ ?_ ?_ ?_ ?_ ?_ ?_ ?_ ?_ ?_ ?_ ?_ ?_ ?_ ?_ ?_ ?_ ?_ ?_ ?_ ?_ ?_ ?_ ?_ ?_ ?_ ?_ ?_ ?_ ?_ ?_ ?_ ?_ ?_ ?_ ?_ ?_ ?_ ?_ ?_ ?_ ?_ ?_ ?_ ?_ ?_ ?_ ?_ ?_ ?_ ?_ ?_ ?_ ?_ ?_ ?_ ?_ ?_ ?_ ?_ ?_ ?_ ?_ ?_ ?_
    any_goals k_is
