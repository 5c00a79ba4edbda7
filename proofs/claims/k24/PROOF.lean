import PyProof.Rows.All
import Wide.All
import OpenK.AllK
import Wide.FinOn
import Lean
import PyProof.EqAt
import PyProof.EqKinds
import PyProof.TupleCall
import KE.KRevIter
import PyProof.ListRange
import PyProof.ZipIter
import PyProof.Rows.ZipGen
import KE.KDictSum
import KE.KRevSl
import PyProof.DictWalks
import PyProof.DictIter
import KE.KDictLaws
import PyProof.StrReplace2
import PyProof.CallStr
import PyProof.DictTruth
import PyProof.MeetsDictList
import PySem.Challenge.RW_stuckwire_k24_whole_hard_ones_tell_all
set_option maxHeartbeats 0
open PySem.W (Frag fnOf keepIn codeIn nsIn mg_of)
set_option Elab.async false
set_option linter.all false
set_option maxRecDepth 100000
set_option bootstrap.genMatcherCode false
set_option compiler.extract_closed false
set_option genSizeOfSpec false
theorem PySem.W.Fast.te14923695572267996703 : True := trivial
theorem PySem.W.Fast.tw2308280793800087260 : True := trivial
theorem PySem.W.Fast.tw228046501774055815 : True := trivial
theorem PySem.W.Fast.tw4548085756407580940 : True := trivial
namespace L2
open PySem PySem.Spec PyProof.Rows
noncomputable abbrev Key:=Sum Int Str
noncomputable def tE:Key->Value->Bool
  | .inl k,v=>Value.isInt k v
  | .inr x,v=>Value.isStrOf x v
noncomputable def Z5L (w:World):Key->Int
  | .inl k=>hashInt k
  | .inr x=>hashStr w x
theorem dO:∀ {k:Key}{v:Value},tE k v=true->(∃ i t,k=Sum.inl i /\ v=Value.int i t) \/ (∃ x t,k=Sum.inr x /\ v=Value.str x t)
  | .inl i,v,h=>by
    obtain⟨t,e⟩:=Value.isInt_shape (k:=i) (v:=v) h
    exact .inl ⟨i,t,rfl,e⟩
  | .inr x,v,h=>by
    obtain⟨t,e⟩:=Value.isStrOf_shape (x:=x) (v:=v) h
    exact .inr ⟨x,t,rfl,e⟩
theorem V8 (i:Int) (t:Tok):tE (.inl i) (.int i t)=true:=by simp [tE,Value.isInt]
theorem V7 (x:Str) (t:Tok):tE (.inr x) (.str x t)=true:=by simp [tE,Value.isStrOf]
theorem Z4b (a b:Int):decide ((Sum.inl a:Key)=Sum.inl b)=(a == b):=by
  by_cases e:a=b
  . subst e;simp
  . have h:¬ (Sum.inl a:Key)=Sum.inl b:=fun q=>e (Sum.inl.inj q)
    rw [decide_eq_false h]
    exact (beq_eq_false_iff_ne.mpr e).symm
theorem Z48 (a b:Str):decide ((Sum.inr a:Key)=Sum.inr b)=decide (a=b):=by
  by_cases e:a=b
  . subst e;simp
  . have h:¬ (Sum.inr a:Key)=Sum.inr b:=fun q=>e (Sum.inr.inj q)
    rw [decide_eq_false h,decide_eq_false e]
theorem Z4a (a:Int) (b:Str):decide ((Sum.inl a:Key)=Sum.inr b)=false:=decide_eq_false (fun q=>nomatch q)
theorem Z49 (a:Str) (b:Int):decide ((Sum.inr a:Key)=Sum.inl b)=false:=decide_eq_false (fun q=>nomatch q)
noncomputable def dU (prog:Program) (w:World):PySem.KeyKind prog w Key where
  is:=tE
  hash:=Z5L w
  inj:=fun v a b ha hb=>by
    rcases dO ha with ⟨i,t,rfl,rfl⟩ | ⟨x,t,rfl,rfl⟩
    . rcases dO hb with ⟨j,u,rfl,e⟩ | ⟨y,u,rfl,e⟩
      . injection e with e1 _;rw [e1]
      . exact nomatch e
    . rcases dO hb with ⟨j,u,rfl,e⟩ | ⟨y,u,rfl,e⟩
      . exact nomatch e
      . injection e with e1 _;rw [e1]
  byValue := fun k v h => by
    rcases dO h with ⟨i,t,rfl,rfl⟩ | ⟨x,t,rfl,rfl⟩ <;> rfl
  pyHash:=fun hv h=>by
    rcases dO hv with ⟨i,t,rfl,rfl⟩ | ⟨x,t,rfl,rfl⟩
    . exact wpAny_pyHash_int h
    . exact wpAny_pyHash_str h
  eqBool:=fun hu hv h=>by
    rcases dO hu with ⟨i,t,rfl,rfl⟩ | ⟨x,t,rfl,rfl⟩
    . rcases dO hv with ⟨j,u,rfl,rfl⟩ | ⟨y,u,rfl,rfl⟩
      . rw [Z4b] at h;exact wpAny_eqBool_int h
      . rw [Z4a] at h;exact SeqAt.EqAt.int_str i t y u _ _ _ _ h
    . rcases dO hv with ⟨j,u,rfl,rfl⟩ | ⟨y,u,rfl,rfl⟩
      . rw [Z49] at h;exact SeqAt.EqAt.str_int x t j u _ _ _ _ h
      . rw [Z48] at h;exact wpAny_eqBool_str h
  «strs»:=fun k x t v h=>by
    rcases dO h with ⟨i,u,rfl,e⟩ | ⟨y,u,rfl,e⟩
    . exact nomatch e
    . injection e with e1 _
      subst e1
      cases v <;> rfl
theorem yZ (prog:Program) (w:World) (i:Int) (t:Tok):(dU prog w).is (.inl i) (.int i t)=true:=V8 i t
theorem yY (prog:Program) (w:World) (x:Str) (t:Tok):(dU prog w).is (.inr x) (.str x t)=true:=V7 x t
inductive V where
  | non | bl (b:Bool) | int (i:Int) | str (x:Str) | byt (b:Array UInt8) | flt (b:UInt64) | ref (a:Addr) | ty (n:String)
  deriving DecidableEq
noncomputable def RelV:V->Value->Prop
  | .non,u=>u=Value.none
  | .bl b,u=>u=Value.bool b
  | .int i,u=>∃ t,u=Value.int i t
  | .str x,u=>∃ t,u=Value.str x t
  | .byt b,u=>∃ t,u=Value.bytes b t
  | .flt b,u=>∃ t,u=Value.float b t
  | .ref a,u=>u=Value.ref a
  | .ty n,u=>u=Value.type n
noncomputable abbrev Vals:List V->List Value->Prop:=Paired RelV
theorem Vals.length {xs:List V}{us:List Value}(r:Vals xs us):xs.length=us.length:=Paired.length r
theorem Vals.get:∀ {xs:List V}{us:List Value}{i:Nat}{x:V},Vals xs us->xs[i]? = some x->∃ u,us[i]? = some u /\ RelV x u
  | _,_,_,_,.nil,e=>by simp at e
  | _,_,0,_,.cons r _,e=>by simp at e;subst e;exact⟨_,rfl,r⟩
  | _,_,i + 1,x,.cons _ t,e=>by
    obtain⟨u,h1,h2⟩:=Vals.get (i:=i) (x:=x) t (by simpa using e)
    exact⟨u,by simpa using h1,h2⟩
theorem Vals.set {x:V}{u:Value}(r:RelV x u):∀ {xs:List V}{us:List Value}(i:Nat),Vals xs us->Vals (xs.set i x) (us.set i u)
  | _,_,_,.nil=>.nil
  | _,_,0,.cons _ t=>.cons r t
  | _,_,i + 1,.cons q t=>.cons q (Vals.set r i t)
theorem Vals.append:∀ {xs ys:List V}{us ws:List Value},Vals xs us->Vals ys ws->Vals (xs ++ ys) (us ++ ws)
  | _,_,_,_,.nil,s=>s
  | _,_,_,_,.cons r t,s=>.cons r (Vals.append t s)
theorem Vals.take:∀ {xs:List V}{us:List Value}(n:Nat),Vals xs us->Vals (xs.take n) (us.take n)
  | _,_,0,_=>.nil
  | _,_,_ + 1,.nil=>.nil
  | _,_,n + 1,.cons r t=>.cons r (Vals.take n t)
theorem Vals.drop:∀ {xs:List V}{us:List Value}(n:Nat),Vals xs us->Vals (xs.drop n) (us.drop n)
  | _,_,0,r=>r
  | _,_,_ + 1,.nil=>.nil
  | _,_,n + 1,.cons _ t=>Vals.drop n t
noncomputable def RelO:Option V->Option Value->Prop
  | some v,some u=>RelV v u
  | none,none=>True
  | _,_=>False
noncomputable def KV {κ:Type}:List (κ × V)->List (κ × Value)->Prop:=Paired fun (p:κ × V) (q:κ × Value)=>p.1=q.1 /\ RelV p.2 q.2
noncomputable def kV:Key->V
  | .inl i=>.int i
  | .inr x=>.str x
inductive HO where
  /-- a list -/
  | lst (xs:List V)
  /-- a tuple (never changes) -/
  | tup (xs:List V)
  /-- a dict whose keys are ints and texts;one whose keys are tuples of ints and texts (the empty one is both) -/
  | dK (kvs:List (Key × V)) | dT (kvs:List (List Key × V))
  | dE (es:List (List Key × Addr × V)) (ep:Nat)
  /-- a set of ints: its members,its size -/
  | set (S:Int->Bool) (n:Nat)
  /-- an instance of the class at C,its dict at dx,its attributes -/
  | ins (C dx:Addr) (fs:List (Str × V))
  /-- the dict of the instance at x -/
  | own (x:Addr)
  /-- the dict of an exception -/
  | xd (fs:List (Str × V))
  /-- a bound method,f of x -/
  | met (f x:Addr)
  /-- a range object lo,lo + 1,.. below hi -/
  | rng (lo hi:Int)
  /-- a thing that is known to the object (the script;a dict while a loop walks it): read,never written while it is so -/
  | frz (o:Obj) (u:HO)
  /-- a code object's table -/
  | tbl (ps:Array Value)
  /-- any other thing,by what is true of its one object (a def of one's own: SetO a S n:=HO.ext fun h=>..) -/
  | ext (φ:Heap->Prop)
noncomputable abbrev Hp:=Addr->Option HO
noncomputable def upd (H:Hp) (a:Addr) (o:HO):Hp:=fun b=>if b=a then some o else H b
theorem aY {H:Hp}{a:Addr}{o:HO}:upd H a o a=some o:=by unfold upd;rw [if_pos rfl]
theorem aX {H:Hp}{a b:Addr}{o:HO}(h:b ≠ a):upd H a o b=H b:=by unfold upd;rw [if_neg h]
theorem Z55 {H:Hp}{a b:Addr}{o u:HO}(h:H a=some o) (h':H b=some u) (d:o ≠ u):a ≠ b:=by
  intro e;subst e;rw [h] at h';exact d (Option.some.inj h')
theorem bI {H:Hp}{a b:Addr}{o:HO}(h:H a=some o) (h':H b=none):a ≠ b:=by
  intro e;subst e;rw [h] at h';cases h'
section
variable (P:Program) (w:World)
noncomputable def ObjOk (H:Hp) (h:Heap) (a:Addr):HO->Prop
  | .lst xs=>xs.length <= sizeLine /\ ∃ (its:List Value) (n:Nat),Vals xs its /\ h.get? a=some { cls:=.type "list",data:=.seq its.toArray n }
  | .tup xs=>xs.length <= sizeLine /\ ∃ its:List Value,Vals xs its /\ IsTup h a its.toArray
  | .dK kvs=>kvs.length <= sizeLine /\ (a == sysModules)=false /\ ∃ vs,KV kvs vs /\ h.DictOf (dU P w) a vs
  | .dT kvs=>kvs.length <= sizeLine /\ (a == sysModules)=false /\ ∃ xs:List (List Key × Addr × Value),
      Paired (fun (p:List Key × V) (q:List Key × Addr × Value)=>p.1=q.1 /\ H q.2.1=some (.tup (p.1.map kV)) /\ RelV p.2 q.2.2) kvs xs /\
      ∃ o es ep,h.get? a=some o /\ o.ExactDict /\ o.data=.dict es ep /\ es.toList=xs.map (entryOfKey (tupleKind (dU P w))) /\ (xs.map (·.1)).Nodup
  | .dE es ep=>es.length <= sizeLine /\ (a == sysModules)=false /\ ∃ xs:List (List Key × Addr × Value),Paired (fun (p:List Key × Addr × V) (q:List Key × Addr × Value)=>p.1=q.1 /\ p.2.1=q.2.1 /\ RelV p.2.2 q.2.2) es xs /\
      ∃ o es',h.get? a=some o /\ o.ExactDict /\ o.data=.dict es' ep /\ es'.toList=xs.map (entryOfKey (tupleKind (dU P w))) /\ (xs.map (·.1)).Nodup
  | .set S n=>h.SetOf (intKind P w) a S n
  | .ins C dx fs=>H dx=some (.own a) /\ fs.length <= 1000 /\ dx ≠ a /\ h.get? a=some (PySem.W.instObj C dx) /\
      ∃ mA,h.Ns1 dx mA /\ (∀ f,RelO (fs.lookup f) (mA f)) /\ PySem.Within mA (fs.map (·.1))
  | .own _=>∃ o,h.get? a=some o
  | .xd fs=>∃ mA,h.Ns1 a mA /\ ∀ f,RelO (fs.lookup f) (mA f)
  | .rng lo hi=>∃ t u v,h.get? a=some { cls:=.type "range",data:=.fields #[.int lo t,.int hi u,.int 1 v] }
  | .frz o u=>h.get? a=some o /\ ObjOk H h a u
  | .tbl ps=>h.get? a=some { cls:=.none,data:=.fields ps }
  | .met f x=>h.get? a=some (PySem.W.methodObj (.ref f) (.ref x))
  | .ext φ=>φ h /\ (∃ o,h.get? a=some o) /\ ∀ h1 h2:Heap,φ h1->(∀ o,h1.get? a=some o->h2.get? a=some o)->φ h2
noncomputable def HOk (H:Hp) (h:Heap):Prop:=∀ a o,H a=some o->ObjOk P w H h a o
end
section
variable {P:Program}{w:World}{H H':Hp}{h h':Heap}{a:Addr}{o:HO}
theorem ObjOk.lt (x:ObjOk P w H h a o):a < h.objs.size:=by
  cases o with
  | lst xs=>obtain⟨_,_,_,_,e⟩:=x;exact Heap.lt_size e
  | tup xs=>obtain⟨_,_,_,p⟩:=x;exact p.lt
  | dK kvs=>obtain⟨_,_,_,_,o,_,_,e,_⟩:=x;exact Heap.lt_size e
  | dT kvs=>obtain⟨_,_,_,_,o,_,_,e,_⟩:=x;exact Heap.lt_size e
  | dE es ep=>obtain⟨_,_,_,_,o,_,e,_⟩:=x;exact Heap.lt_size e
  | set S n=>obtain⟨o,_,_,_,e,_⟩:=x;exact Heap.lt_size e
  | ins C dx fs=>obtain⟨_,_,_,e,_⟩:=x;exact Heap.lt_size e
  | own y=>obtain⟨_,e⟩:=x;exact Heap.lt_size e
  | xd fs=>obtain⟨_,⟨_,_,_,e,_⟩,_⟩:=x;exact Heap.lt_size e
  | rng lo hi=>obtain⟨_,_,_,e⟩:=x;exact Heap.lt_size e
  | frz ob u=>obtain⟨e,_⟩:=x;exact Heap.lt_size e
  | tbl ps=>exact Heap.lt_size (show h.get? a=some _ from x)
  | met f y=>exact Heap.lt_size (show h.get? a=some _ from x)
  | ext φ=>obtain⟨_,⟨_,e⟩,_⟩:=x;exact Heap.lt_size e
theorem Paired.mapP {α β:Type}{F G:α->β->Prop}:∀ {l₁:List α}{l₂:List β},Paired F l₁ l₂->(∀ a b,F a b->G a b)->Paired G l₁ l₂
  | _,_,.nil,_=>.nil
  | _,_,.cons r t,f=>.cons (f _ _ r) (Paired.mapP t f)
theorem ObjOk.stay (x:ObjOk P w H h a o) (k:∀ b u,(b=a \/ H b=some (.own a))->h.get? b=some u->h'.get? b=some u)
    (ho:∀ b,H b=some (.own a)->H' b=some (.own a)) (ht:∀ b xs,H b=some (.tup xs)->H' b=some (.tup xs)):ObjOk P w H' h' a o:=by
  induction o with
  | lst xs=>obtain⟨z,its,n,r,e⟩:=x;exact⟨z,its,n,r,k _ _ (.inl rfl) e⟩
  | tup xs=>obtain⟨z,its,r,ob,e,c⟩:=x;exact⟨z,its,r,ob,k _ _ (.inl rfl) e,c⟩
  | dK kvs=>obtain⟨z,y,vs,r,ob,es,ep,e,c⟩:=x;exact⟨z,y,vs,r,ob,es,ep,k _ _ (.inl rfl) e,c⟩
  | dT kvs =>
    obtain⟨z,y,xs,r,ob,es,ep,e,c⟩:=x
    exact⟨z,y,xs,Paired.mapP r fun p q z=>⟨z.1,ht _ _ z.2.1,z.2.2⟩,ob,es,ep,k _ _ (.inl rfl) e,c⟩
  | dE es ep=>obtain⟨z,y,xs,r,ob,es,e,c⟩:=x;exact⟨z,y,xs,r,ob,es,k _ _ (.inl rfl) e,c⟩
  | set S n=>obtain⟨ob,es,ep,t,e,c⟩:=x;exact⟨ob,es,ep,t,k _ _ (.inl rfl) e,c⟩
  | ins C dx fs =>
    obtain⟨d,z,ne,e,mA,⟨od,es,ep,e2,c⟩,r⟩:=x
    exact⟨ho _ d,z,ne,k _ _ (.inl rfl) e,mA,⟨od,es,ep,k _ _ (.inr d) e2,c⟩,r⟩
  | own y=>obtain⟨ob,e⟩:=x;exact⟨ob,k _ _ (.inl rfl) e⟩
  | xd fs=>obtain⟨mA,⟨od,es,ep,e,c⟩,r⟩:=x;exact⟨mA,⟨od,es,ep,k _ _ (.inl rfl) e,c⟩,r⟩
  | rng lo hi=>obtain⟨t,u,v,e⟩:=x;exact⟨t,u,v,k _ _ (.inl rfl) e⟩
  | frz ob u ih=>obtain⟨e,q⟩:=x;exact⟨k _ _ (.inl rfl) e,ih q⟩
  | tbl ps =>
    have e:h.get? a=some { cls:=.none,data:=.fields ps }:=x
    show h'.get? a=some { cls:=.none,data:=.fields ps }
    exact k a _ (.inl rfl) e
  | met f y =>
    have e:h.get? a=some (PySem.W.methodObj (.ref f) (.ref y)):=x
    show h'.get? a=some (PySem.W.methodObj (.ref f) (.ref y))
    exact k a _ (.inl rfl) e
  | ext φ=>obtain⟨p,⟨o,e⟩,st⟩:=x;exact⟨st _ _ p fun o q=>k _ _ (.inl rfl) q,⟨o,k _ _ (.inl rfl) e⟩,st⟩
theorem HOk.lt (x:HOk P w H h) (e:H a=some o):a < h.objs.size:=(x a o e).lt
theorem HOk.fresh (x:HOk P w H h) (e:h.objs.size <= a):H a=none:=by
  cases q:H a with
  | none=>rfl
  | some u=>exact absurd (Nat.lt_of_lt_of_le (x.lt q) e) (Nat.lt_irrefl _)
theorem HOk.kept (x:HOk P w H h) (k:∀ b u,h.get? b=some u->h'.get? b=some u):HOk P w H h':=fun a o e =>
  (x a o e).stay (fun b u _ q=>k b u q) (fun _ q=>q) fun _ _ q=>q
theorem HOk.laid (x:HOk P w H h) (k:∀ b u,h.get? b=some u->h'.get? b=some u) (hp:h.objs.size <= a) (new:ObjOk P w (upd H a o) h' a o):HOk P w (upd H a o) h':=fun b u e=>by
  have hn:=x.fresh hp
  by_cases hb:b=a
  . subst hb;rw [aY] at e;cases e;exact new
  . rw [aX hb] at e
    exact (x b u e).stay (fun c v _ q=>k c v q) (fun c q=>by rw [aX (bI q hn)];exact q) fun c xs q=>by rw [aX (bI q hn)];exact q
end
noncomputable def Rd (H:Hp) (a:Addr) (u:HO):Prop:=H a=some u \/ ∃ o,H a=some (.frz o u)
theorem Rd.of {H:Hp}{a:Addr}{u:HO}(h:H a=some u):Rd H a u:=.inl h
theorem Rd.ok {P:Program}{w:World}{H:Hp}{h:Heap}{a:Addr}{u:HO}(r:Rd H a u) (x:HOk P w H h):ObjOk P w H h a u:=by
  rcases r with r | ⟨o,r⟩
  . exact x a u r
  . obtain⟨_,q⟩:=x a _ r
    exact q
noncomputable def Mut:Option HO->Prop
  | some (.lst _)=>True
  | some (.dK _)=>True
  | some (.dT _)=>True
  | some (.dE _ _)=>True
  | some (.set _ _)=>True
  | some (.ins _ _ _)=>True
  | some (.ext _)=>True
  | _=>False
section
variable {P:Program}{w:World}{H:Hp}{h h':Heap}{x e:Addr}{o':HO}
theorem HOk.write (ok:HOk P w H h) (mu:Mut (H x)) (he:e=x \/ H e=some (.own x)) (k:∀ b u,b ≠ e->h.get? b=some u->h'.get? b=some u) (heo:∃ u,h'.get? e=some u)
    (new:ObjOk P w (upd H x o') h' x o'):HOk P w (upd H x o') h':=fun b u q=>by
  have nown:∀ c y,H c=some (.own y)->c ≠ x:=fun c y r z=>by subst z;rw [r] at mu;exact mu
  have ntup:∀ c xs,H c=some (.tup xs)->c ≠ x:=fun c xs r z=>by subst z;rw [r] at mu;exact mu
  by_cases hb:b=x
  . subst hb;rw [aY] at q;cases q;exact new
  . rw [aX hb] at q
    by_cases hbe:b=e
    . have q':H b=some (.own x):=by
        rcases he with z | z
        . exact absurd (hbe.trans z) hb
        . rw [hbe];exact z
      rw [q] at q';cases q'
      obtain⟨v,hv⟩:=heo
      exact⟨v,by rw [hbe];exact hv⟩
    . refine (ok b u q).stay (fun c v hc r=>k c v ?_ r) (fun c r=>by rw [aX (nown c b r)];exact r) fun c xs r=>by rw [aX (ntup c xs r)];exact r
      rcases hc with rfl | hc
      . exact hbe
      . rintro rfl
        rcases he with z | z
        . exact nown c b hc z
        . rw [hc] at z;cases z;exact hb rfl
end
structure Un (fs ex:List Addr) (H H':Hp) (h h':Heap):Prop where
  keep:∀ b o,h.get? b=some o->H b=none->b ∉ fs->b ∉ ex->h'.get? b=some o
  slot:∀ b o,h.get? b=some o->H b=none->b ∈ fs->b ∉ ex->∃ sl,h'.get? b=some { o with slots:=sl }
  free:∀ b o,h.get? b=some o->H b=none->b ∉ ex->H' b=none
  there:∀ b o,h.get? b=some o->b ∉ ex->∃ o',h'.get? b=some o'
  tups:∀ b xs,H b=some (.tup xs)->H' b=some (.tup xs)
  frzs:∀ b o u,H b=some (.frz o u)->H' b=some (.frz o u)
  tbls:∀ b ps,H b=some (.tbl ps)->∃ more,H' b=some (.tbl (ps ++ more))
section
variable {fs fs' ex ex':List Addr}{H H1 H2:Hp}{h h1 h2 h':Heap}{a x e:Addr}{o:HO}
theorem Un.any (u:Un fs ex H H1 h h1) {b:Addr}{ob:Obj}(q:h.get? b=some ob) (n:H b=none) (hx:b ∉ ex):∃ sl,h1.get? b=some { ob with slots:=sl }:=by
  by_cases hb:b ∈ fs
  . exact u.slot b ob q n hb hx
  . exact⟨ob.slots,u.keep b ob q n hb hx⟩
theorem Un.trans (a:Un fs ex H H1 h h1) (b:Un fs ex H1 H2 h1 h2):Un fs ex H H2 h h2 where
  keep:=fun c ob q n hc hx=>b.keep c ob (a.keep c ob q n hc hx) (a.free c ob q n hx) hc hx
  slot:=fun c ob q n hc hx=>by
    obtain⟨sl,e1⟩:=a.slot c ob q n hc hx
    obtain⟨sl',e2⟩:=b.slot c _ e1 (a.free c ob q n hx) hc hx
    exact⟨sl',e2⟩
  free:=fun c ob q n hx=>by
    obtain⟨o',e1⟩:=a.there c ob q hx
    exact b.free c o' e1 (a.free c ob q n hx) hx
  there:=fun c ob q hx=>by
    obtain⟨o',e1⟩:=a.there c ob q hx
    exact b.there c o' e1 hx
  tups:=fun c xs q=>b.tups c xs (a.tups c xs q)
  frzs:=fun c ob xs q=>b.frzs c ob xs (a.frzs c ob xs q)
  tbls:=fun c ps q=>by
    obtain⟨m1,e1⟩:=a.tbls c ps q
    obtain⟨m2,e2⟩:=b.tbls c _ e1
    exact⟨m1 ++ m2,by rw [e2,Array.append_assoc]⟩
theorem Un.kept (k:∀ b u,h.get? b=some u->h'.get? b=some u):Un fs ex H H h h' :=
  ⟨fun b ob q _ _ _=>k b ob q,fun b ob q _ _ _=>⟨ob.slots,k b ob q⟩,fun _ _ _ n _=>n,fun b ob q _=>⟨ob,k b ob q⟩,fun _ _ q=>q,fun _ _ _ q=>q,fun _ ps q=>⟨#[],by rw [q];simp⟩⟩
theorem Un.refl:Un fs ex H H h h:=Un.kept fun _ _ q=>q
theorem Un.laid (k:∀ b u,h.get? b=some u->h'.get? b=some u) (hp:h.objs.size <= a) (hn:H a=none):Un fs ex H (upd H a o) h h' where
  keep:=fun b u q _ _ _=>k b u q
  slot:=fun b u q _ _ _=>⟨u.slots,k b u q⟩
  free:=fun b u q n _=>by rw [aX (Nat.ne_of_lt (Nat.lt_of_lt_of_le (Heap.lt_size q) hp))];exact n
  there:=fun b u q _=>⟨u,k b u q⟩
  tups:=fun b xs q=>by rw [aX (bI q hn)];exact q
  frzs:=fun b u xs q=>by rw [aX (bI q hn)];exact q
  tbls:=fun b ps q=>⟨#[],by rw [aX (bI q hn),q];simp⟩
theorem Un.write (mu:Mut (H x)) (he:e=x \/ H e=some (.own x)) (k:∀ b u,b ≠ e->h.get? b=some u->h'.get? b=some u) (heo:∃ u,h'.get? e=some u):Un fs ex H (upd H x o) h h':=by
  have hx:∀ b,H b=none->b ≠ x:=fun b n z=>by subst z;rw [n] at mu;exact mu
  have hb:∀ b,H b=none->b ≠ e:=fun b n z=>by
    subst z
    rcases he with r | r
    . exact hx b n r
    . rw [n] at r;cases r
  have hm:∀ b u,H b=some u -> ¬ Mut (some u)->b ≠ x:=fun b u q nm z=>by subst z;rw [q] at mu;exact nm mu
  refine⟨fun b u q n _ _=>k b u (hb b n) q,fun b u q n _ _=>⟨u.slots,k b u (hb b n) q⟩,fun b u q n _=>by rw [aX (hx b n)];exact n,fun b u q _=>?_,
    fun b xs q=>by rw [aX (hm b _ q fun z=>z)];exact q,fun b u xs q=>by rw [aX (hm b _ q fun z=>z)];exact q,fun b ps q=>⟨#[],by rw [aX (hm b _ q fun z=>z),q];simp⟩⟩
  by_cases hbe:b=e
  . subst hbe;exact heo
  . exact⟨u,k b u hbe q⟩
theorem Un.mono (u:Un fs ex H H1 h h1) (hs:∀ b ∈ fs,b ∈ fs') (hx:∀ b ∈ ex,b ∈ ex'):Un fs' ex' H H1 h h1 :=
  ⟨fun b ob q n hb he=>u.keep b ob q n (fun z=>hb (hs b z)) fun z=>he (hx b z),fun _ _ q n _ he=>u.any q n fun z=>he (hx _ z),fun b ob q n he=>u.free b ob q n fun z=>he (hx b z),fun b ob q he=>u.there b ob q fun z=>he (hx b z),u.tups,u.frzs,u.tbls⟩
end
noncomputable def trk (h:Heap) (H:Hp):List Addr:=(List.range h.objs.size).filter fun a=>(H a).isSome
noncomputable def xB (h:Heap) (H:Hp):Heap:=PySem.W.hideAll h (trk h H)
theorem W0 (h:Heap) (H:Hp):(xB h H).objs.size=h.objs.size:=PySem.W.hideAll_size _ _
theorem Z1d {h:Heap}{H:Hp}{b:Addr}{o:Obj}(e:h.get? b=some o) (n:H b=none):(xB h H).get? b=some o :=
  PySem.W.hideAll_get _ e fun hm=>by
    have q:(H b).isSome=true:=(List.mem_filter.mp hm).2
    rw [n] at q;simp at q
theorem Z2z {h:Heap}{H:Hp}{b:Addr}{o:Obj}(e:(xB h H).get? b=some o):h.get? b=some o /\ H b=none:=by
  have e':h.get? b=some o:=PySem.W.of_hideAll (trk h H) e
  refine⟨e',?_⟩
  cases q:H b with
  | none=>rfl
  | some x =>
    have hm:b ∈ trk h H:=List.mem_filter.mpr ⟨List.mem_range.mpr (Heap.lt_size e'),by simp [q]⟩
    have z:(xB h H).get? b=none:=PySem.W.hideAll_none (trk h H) hm
    rw [z] at e;cases e
noncomputable def Z38 (g h:Heap) (L:Addr):List (Addr × Obj):=(List.range h.objs.size).filterMap fun a=>if a=L \/ (g.get? a).isSome=true then none else (h.get? a).map fun o=>(a,o)
noncomputable def rest (g h:Heap) (L d:Addr):List (Addr × Obj):=(Z38 g h L).filter fun p=>decide (p.1 ≠ d)
structure Mod (K:Frag) (mg:Str->Option Value) (base:Heap):Prop where
  kin:K.In base
  glob:base.Ns mainGlobals mg
  blt:∃ mb,base.Ns builtinsNs mb /\ ∀ x:Str,x ≠ "__name__" -> mb x=bootBuiltins x
  nolimit:base.NoLimit
structure Cx where
  prog:Program
  w:World
  K:Frag
  mg:Str->Option Value
  base:Heap
  A:Around
  N:List Str
  s₀:Shared
  H₀:Hp
  env:Env
  outer:List Env
  stack:List Env
  ex:List Addr
  fn:Str->Bool
  calm:Bool
  pn:List (Addr × Obj)
  xe:Value->Shared->Prop
noncomputable def frs (l:List Env):List Addr:=l.filterMap (·.frame)
noncomputable abbrev Cx.fs (X:Cx):List Addr:=frs X.outer
noncomputable def Vis (sc:Scope) (x:Str):Prop:=sc.names.lookup x=some .local \/ sc.names.lookup x=some .cell \/ sc.names.lookup x=some .free
noncomputable def Loc (sc:Scope) (x:Str):Prop:=sc.names.lookup x=some .local \/ sc.names.lookup x=some .cell
noncomputable def Z5R (env:Env) (h:Heap) (m:Str->Option Value) (x:Str) (u:Value):Prop :=
  (env.kindOf x=some .local /\ m x=some u) \/ ((env.kindOf x=some .cell \/ env.kindOf x=some .free) /\ ∃ c,env.cells.lookup x=some c /\ h.IsCell c (some u))
structure Cx.Ok (X:Cx):Prop where
  mod:Mod X.K X.mg X.base
  kind:X.env.scope.kind=.function
  glob:X.env.globals=mainGlobals
  blt:X.env.builtins=builtinsNs
  above:X.s₀.heap.objs.size <= X.env.locals
  inj:∀ x y c,X.env.cells.lookup x=some c->X.env.cells.lookup y=some c->x=y
  has:∀ x,(X.env.kindOf x=some .cell \/ X.env.kindOf x=some .free)->∃ c,X.env.cells.lookup x=some c
  cab:∀ x c,X.fn x=true->X.env.cells.lookup x=some c->X.s₀.heap.objs.size <= c
  hd:X.calm=true->X.A.handled=none
  frames:X.A.frames=some X.stack
  stk:X.stack=X.outer \/ (X.stack=X.env :: X.outer /\ X.env.frame=some X.env.locals)
  exf:∀ b ∈ X.ex,b ≠ X.env.locals /\ ∀ x c,X.env.cells.lookup x=some c->c ≠ b
  bs:∀ b o,X.base.get? b=some o->X.s₀.heap.get? b=some o /\ X.H₀ b=none
  bsz:X.base.objs.size <= X.s₀.heap.objs.size
  noex:∀ b o,X.base.get? b=some o->b ∉ X.ex
  exfs:∀ b ∈ X.ex,b ∉ X.fs
  funs:X.s₀.heap.FunFrames X.base X.outer
  frf:∀ b ∈ X.fs,X.H₀ b=none
structure Inv (X:Cx) (pins:List (Addr × Obj)) (σ:List (Option V)) (H:Hp) (s:Shared):Prop where
  ok:X.Ok
  os:s.os=X.s₀.os
  bare:AllBare s.gens
  base:Un X.fs X.ex X.H₀ H X.s₀.heap s.heap
  loc:∃ m,s.heap.Ns X.env.locals m /\ ∀ (i:Nat) (x:Str) (v:V),X.N[i]? = some x->σ[i]? = some (some v)->Vis X.env.scope x->∃ u,RelV v u /\ Z5R X.env s.heap m x u
  cell:∀ x c,X.env.cells.lookup x=some c->∃ v,s.heap.IsCell c v
  free:H X.env.locals=none
  freeC:∀ x c,X.env.cells.lookup x=some c->H c=none
  pin:∀ p ∈ X.pn ++ pins,s.heap.get? p.1=some p.2 /\ H p.1=none /\ p.1 ≠ X.env.locals /\ p.1 ∉ X.fs /\ ∀ v,p.2.data ≠ .cell v
  hok:HOk X.prog X.w H s.heap
  len:σ.length=X.N.length
section
variable {X:Cx}{pins:List (Addr × Obj)}{σ:List (Option V)}{H H':Hp}{s:Shared}{h':Heap}
theorem Cx.Ok.nofr (ok:X.Ok) {b:Addr}{o:Obj}(e:X.base.get? b=some o):b ∉ X.fs:=fun hb=>by
  have:=(ok.funs.mem hb).1
  rw [e] at this;cases this
theorem Inv.bs (I:Inv X pins σ H s):∀ b o,X.base.get? b=some o->s.heap.get? b=some o /\ H b=none:=fun b o e =>
  ⟨I.base.keep b o (I.ok.bs b o e).1 (I.ok.bs b o e).2 (I.ok.nofr e) (I.ok.noex b o e),I.base.free b o (I.ok.bs b o e).1 (I.ok.bs b o e).2 (I.ok.noex b o e)⟩
theorem Inv.bk (I:Inv X pins σ H s):∀ b o,X.base.get? b=some o->s.heap.get? b=some o:=fun b o e=>(I.bs b o e).1
theorem Inv.mod (I:Inv X pins σ H s):Mod X.K X.mg X.base:=I.ok.mod
theorem Inv.kIn (I:Inv X pins σ H s):X.K.In s.heap:=I.ok.mod.kin.keeps I.bk
theorem Inv.nolimit (I:Inv X pins σ H s):s.heap.NoLimit:=I.ok.mod.nolimit.keeps I.bk
theorem Inv.fr (I:Inv X pins σ H s):∃ m,Fr X.base X.env.locals s.heap m :=
  let ⟨m,hn,_⟩:=I.loc
  ⟨m,hn,I.bk,Nat.le_trans I.ok.bsz I.ok.above⟩
theorem Inv.lt (I:Inv X pins σ H s):X.env.locals < s.heap.objs.size:=let ⟨_,hn,_⟩:=I.loc;hn.lt
theorem Inv.sz (I:Inv X pins σ H s):X.s₀.heap.objs.size <= s.heap.objs.size:=Nat.le_trans I.ok.above (Nat.le_of_lt I.lt)
theorem Inv.nofs (I:Inv X pins σ H s) {a:Addr}(h:s.heap.objs.size <= a):a ∉ X.fs:=fun hb=>by
  obtain⟨_,o,ho,_⟩:=I.ok.funs.mem hb
  exact absurd (Nat.lt_of_lt_of_le (Heap.lt_size ho) (Nat.le_trans I.sz h)) (Nat.lt_irrefl _)
theorem Inv.cne (I:Inv X pins σ H s):∀ x c,X.env.cells.lookup x=some c->c ≠ X.env.locals:=fun x c e z=>by
  obtain⟨v,o,ho,hd⟩:=I.cell x c e
  obtain⟨m,⟨o',es,ep,ho',hd',_⟩,_⟩:=I.loc
  rw [z,ho'] at ho;cases ho;rw [hd'] at hd;cases hd
theorem Inv.funs (I:Inv X pins σ H s):s.heap.FunFrames X.base X.outer:=by
  have all:∀ (l:List Env),(∀ b ∈ frs l,b ∈ X.fs)->X.s₀.heap.FunFrames X.base l->s.heap.FunFrames X.base l:=by
    intro l
    induction l with
    | nil=>intro _ _;trivial
    | cons env r ih =>
      intro hs hl
      obtain⟨hk,⟨L,o,hf,hn,ho,hd⟩,hr⟩:=hl
      have hL:L ∈ X.fs:=hs L (by unfold frs;rw [List.filterMap_cons,hf];exact List.mem_cons_self)
      obtain⟨sl,e⟩:=I.base.slot L o ho (I.ok.frf L hL) hL fun z=>I.ok.exfs L z hL
      exact⟨hk,⟨L,_,hf,hn,e,hd⟩,ih (fun b hb=>hs b (by unfold frs;rw [List.filterMap_cons,hf];exact List.mem_cons_of_mem _ hb)) hr⟩
  exact all X.outer (fun _ hb=>hb) I.ok.funs
theorem Inv.stack (I:Inv X pins σ H s):s.heap.FunFrames X.base X.stack:=by
  rcases I.ok.stk with e | ⟨e,hf⟩
  . rw [e];exact I.funs
  . rw [e]
    obtain⟨m,hn,_⟩:=I.loc
    refine .cons (by rw [I.ok.kind];decide) hf hn ?_ I.funs
    exact Heap.get?_none_of_le (Nat.le_trans I.ok.bsz I.ok.above)
theorem Inv.stkSub (I:Inv X pins σ H s):∀ b ∈ frs X.stack,b ∈ X.env.locals :: X.fs:=fun b hb=>by
  rcases I.ok.stk with e | ⟨e,hf⟩
  . rw [e] at hb;exact List.mem_cons_of_mem _ hb
  . rw [e] at hb
    unfold frs at hb
    rw [List.filterMap_cons,hf] at hb
    exact hb
theorem Inv.stkFree (I:Inv X pins σ H s):∀ b ∈ frs X.stack,H b=none:=fun b hb=>by
  rcases List.mem_cons.mp (I.stkSub b hb) with e | hb
  . rw [e];exact I.free
  . obtain⟨_,o,ho,_⟩:=I.ok.funs.mem hb
    exact I.base.free b o ho (I.ok.frf b hb) fun z=>I.ok.exfs b z hb
theorem Inv.step {g':Array GenState}{t':Nat}{d':Drawn}{ch:List Addr}(I:Inv X pins σ H s)
    (hch:∀ b ∈ ch,(b ∈ X.ex \/ X.s₀.heap.objs.size <= b) /\ b ≠ X.env.locals /\ (∀ x c,X.env.cells.lookup x=some c->c ≠ b) /\ ∀ p ∈ X.pn ++ pins,p.1 ≠ b)
    (keep:∀ b o,b ≠ X.env.locals->b ∉ X.fs->b ∉ ch->s.heap.get? b=some o->H b=none->h'.get? b=some o)
    (slot:∀ b o,b ≠ X.env.locals->b ∈ X.fs->b ∉ ch->s.heap.get? b=some o->H b=none->∃ sl,h'.get? b=some { o with slots:=sl }) (free:∀ b o,b ∉ ch->s.heap.get? b=some o->H b=none->H' b=none)
    (there:∀ b o,b ∉ ch->s.heap.get? b=some o->∃ o',h'.get? b=some o')
    (tups:∀ b xs,H b=some (.tup xs)->H' b=some (.tup xs)) (frzs:∀ b o u,H b=some (.frz o u)->H' b=some (.frz o u)) (tbls:∀ b ps,H b=some (.tbl ps)->∃ more,H' b=some (.tbl (ps ++ more)))
    (ns:∀ m,s.heap.Ns X.env.locals m->h'.Ns X.env.locals m) (hok:HOk X.prog X.w H' h') (hg:AllBare g') :
    Inv X pins σ H' { s with heap:=h',gens:=g',drawn:=d',toks:=t' }:=by
  have neL:∀ b o,X.s₀.heap.get? b=some o->b ≠ X.env.locals:=fun b o e=>Nat.ne_of_lt (Nat.lt_of_lt_of_le (Heap.lt_size e) I.ok.above)
  have neC:∀ b o,X.s₀.heap.get? b=some o->b ∉ X.ex->b ∉ ch:=fun b o e hx hb=>by
    rcases (hch b hb).1 with z | z
    . exact hx z
    . exact absurd (Nat.lt_of_lt_of_le (Heap.lt_size e) z) (Nat.lt_irrefl _)
  have cellK:∀ x c,X.env.cells.lookup x=some c->∀ v,s.heap.IsCell c v->h'.IsCell c v:=fun x c e v ⟨o,ho,hd⟩=>by
    have nch:c ∉ ch:=fun z=>(hch c z).2.2.1 x c e rfl
    by_cases hc:c ∈ X.fs
    . obtain⟨sl,q⟩:=slot c o (I.cne x c e) hc nch ho (I.freeC x c e)
      exact⟨_,q,hd⟩
    . exact⟨o,keep c o (I.cne x c e) hc nch ho (I.freeC x c e),hd⟩
  refine⟨I.ok,I.os,hg,⟨fun b o e n hb hx=>?_,fun b o e n hb hx=>?_,fun b o e n hx=>?_,fun b o e hx=>?_,fun b xs e=>tups b xs (I.base.tups b xs e),fun b o xs e=>frzs b o xs (I.base.frzs b o xs e),fun b ps e=>?_⟩,?_,fun x c e=>?_,?_,fun x c e=>?_,fun p hp=>?_,hok,I.len⟩
  . exact keep b o (neL b o e) hb (neC b o e hx) (I.base.keep b o e n hb hx) (I.base.free b o e n hx)
  . obtain⟨sl,e1⟩:=I.base.slot b o e n hb hx
    obtain⟨sl',e2⟩:=slot b _ (neL b o e) hb (neC b o e hx) e1 (I.base.free b o e n hx)
    exact⟨sl',e2⟩
  . obtain⟨o',e1⟩:=I.base.there b o e hx
    exact free b o' (neC b o e hx) e1 (I.base.free b o e n hx)
  . obtain⟨o',e1⟩:=I.base.there b o e hx
    exact there b o' (neC b o e hx) e1
  . obtain⟨m1,e1⟩:=I.base.tbls b ps e
    obtain⟨m2,e2⟩:=tbls b _ e1
    exact⟨m1 ++ m2,by rw [e2,Array.append_assoc]⟩
  . obtain⟨m,hn,hl⟩:=I.loc
    refine⟨m,ns m hn,fun i x v e1 e2 e3=>?_⟩
    obtain⟨u,r,l⟩:=hl i x v e1 e2 e3
    refine⟨u,r,?_⟩
    rcases l with l | ⟨k,c,e,z⟩
    . exact .inl l
    . exact .inr ⟨k,c,e,cellK x c e _ z⟩
  . obtain⟨v,z⟩:=I.cell x c e
    exact⟨v,cellK x c e v z⟩
  . obtain⟨m,⟨o,_,_,ho,_⟩,_⟩:=I.loc
    exact free _ o (fun z=>(hch _ z).2.1 rfl) ho I.free
  . obtain⟨v,o,ho,hd⟩:=I.cell x c e
    exact free c o (fun z=>(hch c z).2.2.1 x c e rfl) ho (I.freeC x c e)
  . obtain⟨e,n,ne,nf,d⟩:=I.pin p hp
    have nch:p.1 ∉ ch:=fun z=>(hch p.1 z).2.2.2 p hp rfl
    exact⟨keep p.1 p.2 ne nf nch e n,free p.1 p.2 nch e n,ne,nf,d⟩
theorem Inv.un {t':Nat}(I:Inv X pins σ H s) (u:Un X.fs [] H H' s.heap h') (hok:HOk X.prog X.w H' h'):Inv X pins σ H' { s with heap:=h',toks:=t' }:=by
  obtain⟨m,⟨o,es,ep,ho,r⟩,_⟩:=id I.loc
  obtain⟨sl,hL⟩:=u.any ho I.free (by simp)
  exact I.step (g':=s.gens) (d':=s.drawn) (ch:=[]) (fun _ z=>nomatch z) (fun b o _ hb _ e n=>u.keep b o e n hb (by simp)) (fun b o _ hb _ e n=>u.slot b o e n hb (by simp)) (fun b o _ e n=>u.free b o e n (by simp)) (fun b o _ e=>u.there b o e (by simp)) u.tups u.frzs u.tbls (fun m' hm=>by
    obtain⟨o',es',ep',ho',r'⟩:=hm
    rw [ho] at ho';cases ho'
    exact⟨_,es',ep',hL,r'⟩) hok I.bare
theorem Inv.call {g':Array GenState}{t':Nat}{d':Drawn}{ch:List Addr}(I:Inv X pins σ H s) (u:Un (frs X.stack) ch H H' s.heap h') (hok:HOk X.prog X.w H' h') (hg:AllBare g')
    (hch:∀ b ∈ ch,(b ∈ X.ex \/ X.s₀.heap.objs.size <= b) /\ b ≠ X.env.locals /\ (∀ x c,X.env.cells.lookup x=some c->c ≠ b) /\ ∀ p ∈ X.pn ++ pins,p.1 ≠ b) :
    Inv X pins σ H' { s with heap:=h',gens:=g',drawn:=d',toks:=t' }:=by
  obtain⟨m,⟨o,es,ep,ho,r⟩,_⟩:=id I.loc
  obtain⟨sl,hL⟩:=u.any ho I.free fun z=>(hch _ z).2.1 rfl
  exact I.step (ch:=ch) hch (fun b o hL hb hc e n=>u.keep b o e n (fun z=>(List.mem_cons.mp (I.stkSub b z)).elim hL hb) hc) (fun b o _ _ hc e n=>u.any e n hc) (fun b o hc e n=>u.free b o e n hc) (fun b o hc e=>u.there b o e hc) u.tups u.frzs u.tbls (fun m' hm=>by
    obtain⟨o',es',ep',ho',r'⟩:=hm
    rw [ho] at ho';cases ho'
    exact⟨_,es',ep',hL,r'⟩) hok hg
theorem Inv.turned {t':Nat}{it:Addr}(I:Inv X pins σ H s) (k:∀ b o,b ≠ it->s.heap.get? b=some o->h'.get? b=some o) (hn:H it=none) (hL:it ≠ X.env.locals)
    (h1:it ∈ X.ex \/ X.s₀.heap.objs.size <= it) (h2:∀ x c,X.env.cells.lookup x=some c->c ≠ it) (h3:∀ p ∈ X.pn ++ pins,p.1 ≠ it):Inv X pins σ H { s with heap:=h',toks:=t' }:=by
  have nit:∀ b u,H b=some u->b ≠ it:=fun b u e z=>by rw [z,hn] at e;cases e
  refine I.step (g':=s.gens) (d':=s.drawn) (ch:=[it]) (fun b hb=>?_) (fun b o _ _ hc e _=>k b o (fun z=>hc (by simp [z])) e) (fun b o _ _ hc e _=>⟨o.slots,k b o (fun z=>hc (by simp [z])) e⟩) (fun _ _ _ _ n=>n)
    (fun b o hc e=>⟨o,k b o (fun z=>hc (by simp [z])) e⟩) (fun _ _ e=>e) (fun _ _ _ e=>e) (fun b ps e=>⟨#[],by rw [e];simp⟩) (fun m hm=>?_) (fun b u e=>?_) I.bare
  . have e:b=it:=by simpa using hb
    subst e
    exact⟨h1,hL,h2,h3⟩
  . obtain⟨o,es,ep,ho,r⟩:=hm
    exact⟨o,es,ep,k _ o (Ne.symm hL) ho,r⟩
  . refine (I.hok b u e).stay (fun c v hc q=>k c v ?_ q) (fun _ q=>q) fun _ _ q=>q
    rcases hc with z | z
    . rw [z];exact nit b u e
    . exact nit c _ z
theorem Inv.tok (I:Inv X pins σ H s) (t:Nat):Inv X pins σ H { s with toks:=t }:=I.un (h':=s.heap) (t':=t) Un.refl I.hok
theorem Inv.kept {t':Nat}(I:Inv X pins σ H s) (k:∀ b u,s.heap.get? b=some u->h'.get? b=some u):Inv X pins σ H { s with heap:=h',toks:=t' }:=I.un (Un.kept k) (I.hok.kept k)
theorem Inv.laid {a:Addr}{o:HO}{t':Nat}(I:Inv X pins σ H s) (k:∀ b u,s.heap.get? b=some u->h'.get? b=some u) (hp:s.heap.objs.size <= a) (new:ObjOk X.prog X.w (upd H a o) h' a o) :
    Inv X pins σ (upd H a o) { s with heap:=h',toks:=t' }:=I.un (Un.laid k hp (I.hok.fresh hp)) (I.hok.laid k hp new)
theorem Inv.write {x e:Addr}{o:HO}{t':Nat}(I:Inv X pins σ H s) (mu:Mut (H x)) (he:e=x \/ H e=some (.own x)) (k:∀ b u,b ≠ e->s.heap.get? b=some u->h'.get? b=some u) (heo:∃ u,h'.get? e=some u)
    (new:ObjOk X.prog X.w (upd H x o) h' x o):Inv X pins σ (upd H x o) { s with heap:=h',toks:=t' }:=I.un (Un.write mu he k heo) (I.hok.write mu he k heo new)
theorem Inv.weak {σ':List (Option V)}(I:Inv X pins σ H s) (hl:σ'.length=σ.length) (w:∀ (i:Nat) v,σ'[i]? = some (some v)->σ[i]? = some (some v)):Inv X pins σ' H s :=
  ⟨I.ok,I.os,I.bare,I.base,let ⟨m,hn,hl'⟩:=I.loc;⟨m,hn,fun i x v e1 e2 e3=>hl' i x v e1 (w i v e2) e3⟩,I.cell,I.free,I.freeC,I.pin,I.hok,hl.trans I.len⟩
theorem Inv.pins_of {pins':List (Addr × Obj)}(I:Inv X pins σ H s) (h:∀ p ∈ pins',s.heap.get? p.1=some p.2 /\ H p.1=none /\ p.1 ≠ X.env.locals /\ p.1 ∉ X.fs /\ ∀ v,p.2.data ≠ .cell v):Inv X pins' σ H s :=
  ⟨I.ok,I.os,I.bare,I.base,I.loc,I.cell,I.free,I.freeC,fun p hp=>(List.mem_append.mp hp).elim (fun z=>I.pin p (List.mem_append_left _ z)) (h p),I.hok,I.len⟩
theorem yX {N:List Str}(hN:N.Nodup) {i j:Nat}{x:Str}(a:N[i]? = some x) (b:N[j]? = some x):i=j:=by
  obtain⟨h1,e1⟩:=List.getElem?_eq_some_iff.mp a
  obtain⟨h2,e2⟩:=List.getElem?_eq_some_iff.mp b
  exact (List.getElem_inj hN).mp (e1.trans e2.symm)
theorem uY {M:Model}{A:Around}{E:Value->Shared->Prop}{i:Nat}{x:Str}{v:V}{u:Value}{Q:Unit->Shared->Prop}(I:Inv X pins σ H s) (hN:X.N.Nodup) (hi:X.N[i]? = some x) (hx:Loc X.env.scope x) (r:RelV v u)
    (h:∀ s',Inv X pins (σ.set i (some v)) H s'->(∃ a,Heap.SameBut a s.heap s'.heap /\ (a=X.env.locals \/ X.env.cells.lookup x=some a))->Q () s') (hf:X.fn x=true \/ X.env.scope.names.lookup x=some .local:=by first | exact .inl rfl | exact .inr rfl | assumption):wpAny M A (storeName X.env x u) Q E s:=by
  obtain⟨m,hn,hl⟩:=id I.loc
  have hcls:(X.env.scope.kind == .class || (X.env.scope.kind == .module && X.env.locals != X.env.globals))=false:=by rw [I.ok.kind];rfl
  have hiσ:i < σ.length:=by rw [I.len];exact (List.getElem?_eq_some_iff.mp hi).1
  have cne:=I.cne
  have tracked:∀ {a:Addr}{h':Heap},(∃ o,s.heap.get? a=some o /\ H a=none)->Heap.SameBut a s.heap h'->HOk X.prog X.w H h':=fun {a h'} ha hs b ob e=>by
    obtain⟨_,_,hfree⟩:=ha
    refine (I.hok b ob e).stay (fun c w' hc q=>(hs.2 c ?_).trans q) (fun _ q=>q) fun _ _ q=>q
    rintro rfl
    rcases hc with rfl | hc
    . rw [hfree] at e;cases e
    . rw [hfree] at hc;cases hc
  rcases hx with hk | hk
  . refine wpAny_storeName_local hk hn (fun h' hn' hs=>?_) hcls
    obtain⟨oL,_,_,hoL,_⟩:=id hn
    refine h _ ⟨I.ok,I.os,I.bare,⟨fun b o e n hb hx=>?_,fun b o e n hb hx=>?_,I.base.free,fun b o e hx=>?_,I.base.tups,I.base.frzs,I.base.tbls⟩,⟨_,hn',fun j y v' e1 e2 e3=>?_⟩,fun y c e=>?_,I.free,I.freeC,fun p hp=>?_,tracked ⟨oL,hoL,I.free⟩ hs,by simpa using I.len⟩ ⟨_,hs,.inl rfl⟩
    . exact (hs.2 b (Nat.ne_of_lt (Nat.lt_of_lt_of_le (Heap.lt_size e) I.ok.above))).trans (I.base.keep b o e n hb hx)
    . obtain⟨sl,e1⟩:=I.base.slot b o e n hb hx
      exact⟨sl,(hs.2 b (Nat.ne_of_lt (Nat.lt_of_lt_of_le (Heap.lt_size e) I.ok.above))).trans e1⟩
    . obtain⟨o',e1⟩:=I.base.there b o e hx
      exact⟨o',(hs.2 b (Nat.ne_of_lt (Nat.lt_of_lt_of_le (Heap.lt_size e) I.ok.above))).trans e1⟩
    . by_cases hj:j=i
      . subst hj
        rw [hi] at e1;cases e1
        rw [List.getElem?_set_self hiσ] at e2
        cases e2
        exact⟨u,r,.inl ⟨hk,by simp⟩⟩
      . rw [List.getElem?_set_ne (Ne.symm hj)] at e2
        obtain⟨u',r',q⟩:=hl j y v' e1 e2 e3
        refine⟨u',r',?_⟩
        rcases q with ⟨k,e⟩ | ⟨k,c,e,z⟩
        . refine .inl ⟨k,?_⟩
          have:y ≠ x:=fun e=>hj (yX hN e1 (e ▸ hi))
          simp [this,e]
        . exact .inr ⟨k,c,e,z.sameBut hs (cne y c e)⟩
    . obtain⟨w',z⟩:=I.cell y c e
      exact⟨w',z.sameBut hs (cne y c e)⟩
    . obtain⟨e,n,ne,nf,d⟩:=I.pin p hp
      exact⟨(hs.2 p.1 ne).trans e,n,ne,nf,d⟩
  . have hfn:X.fn x=true:=by
      rcases hf with z | z
      . exact z
      . rw [z] at hk;cases hk
    obtain⟨c,hc⟩:=I.ok.has x (.inl hk)
    obtain⟨w',z⟩:=I.cell x c hc
    refine wpAny_storeName_cell I.ok.kind hk hc z (fun h' hc' hs=>?_)
    obtain⟨oc,hoc,hocd⟩:=id z
    refine h { s with heap:=h' } ⟨I.ok,I.os,I.bare,⟨fun b o e n hb hx=>?_,fun b o e n hb hx=>?_,I.base.free,fun b o e hx=>?_,I.base.tups,I.base.frzs,I.base.tbls⟩,⟨m,hn.sameBut hs (Ne.symm (cne x c hc)),fun j y v' e1 e2 e3=>?_⟩,fun y c' e=>?_,I.free,I.freeC,fun p hp=>?_,tracked ⟨oc,hoc,I.freeC x c hc⟩ hs,by simpa using I.len⟩ ⟨c,hs,.inr hc⟩
    . exact (hs.2 b (Nat.ne_of_lt (Nat.lt_of_lt_of_le (Heap.lt_size e) (I.ok.cab x c hfn hc)))).trans (I.base.keep b o e n hb hx)
    . obtain⟨sl,e1⟩:=I.base.slot b o e n hb hx
      exact⟨sl,(hs.2 b (Nat.ne_of_lt (Nat.lt_of_lt_of_le (Heap.lt_size e) (I.ok.cab x c hfn hc)))).trans e1⟩
    . obtain⟨o',e1⟩:=I.base.there b o e hx
      exact⟨o',(hs.2 b (Nat.ne_of_lt (Nat.lt_of_lt_of_le (Heap.lt_size e) (I.ok.cab x c hfn hc)))).trans e1⟩
    . by_cases hj:j=i
      . subst hj
        rw [hi] at e1;cases e1
        rw [List.getElem?_set_self hiσ] at e2
        cases e2
        exact⟨u,r,.inr ⟨.inl hk,c,hc,hc'⟩⟩
      . rw [List.getElem?_set_ne (Ne.symm hj)] at e2
        obtain⟨u',r',q⟩:=hl j y v' e1 e2 e3
        refine⟨u',r',?_⟩
        rcases q with q | ⟨k,c',e,z'⟩
        . exact .inl q
        . refine .inr ⟨k,c',e,z'.sameBut hs ?_⟩
          rintro rfl
          exact hj (yX hN e1 (I.ok.inj _ _ _ e hc ▸ hi))
    . by_cases hcc:c'=c
      . subst hcc;exact⟨_,hc'⟩
      . obtain⟨w2,z2⟩:=I.cell y c' e
        exact⟨w2,z2.sameBut hs hcc⟩
    . obtain⟨e,n,ne,nf,d⟩:=I.pin p hp
      refine⟨(hs.2 p.1 ?_).trans e,n,ne,nf,d⟩
      intro q
      rw [q,hoc] at e
      have q':oc=p.2:=Option.some.inj e
      exact d w' (by rw [<- q'];exact hocd)
theorem yH {M:Model}{A:Around}{E:Value->Shared->Prop}{i:Nat}{x:Str}{v:V}{u:Value}{Q:Unit->Shared->Prop}(I:Inv X pins σ H s) (hN:X.N.Nodup) (hi:X.N[i]? = some x) (hx:Loc X.env.scope x) (r:RelV v u)
    (h:∀ s',Inv X pins (σ.set i (some v)) H s'->Q () s') (hf:X.fn x=true \/ X.env.scope.names.lookup x=some .local:=by first | exact .inl rfl | exact .inr rfl | assumption):wpAny M A (storeName X.env x u) Q E s :=
  uY I hN hi hx r (fun s' I' _=>h s' I') hf
theorem Inv.call' {s':Shared}{ch:List Addr}(I:Inv X pins σ H s) (ho:s'.os=s.os) (u:Un (frs X.stack) ch H H' s.heap s'.heap) (hok:HOk X.prog X.w H' s'.heap) (hg:AllBare s'.gens)
    (hch:∀ b ∈ ch,(b ∈ X.ex \/ X.s₀.heap.objs.size <= b) /\ b ≠ X.env.locals /\ (∀ x c,X.env.cells.lookup x=some c->c ≠ b) /\ ∀ p ∈ X.pn ++ pins,p.1 ≠ b):Inv X pins σ H' s':=by
  obtain⟨h',g',d',t',o'⟩:=s'
  have e:o'=s.os:=ho
  subst e
  exact I.call (g':=g') (t':=t') (d':=d') u hok hg hch
end
noncomputable abbrev XK:=Value->Option Addr->Hp->Prop
noncomputable abbrev St:=List (Option V)
noncomputable abbrev VK:=V->Hp->Prop
noncomputable abbrev TE:=St->Hp->VK->Prop
noncomputable abbrev TT:=St->Hp->(Bool->Hp->Prop)->Prop
noncomputable abbrev TA:=St->Hp->(List V->Hp->Prop)->Prop
structure A7 where
  nx:St->Hp->Prop
  rt:VK
  bk:St->Hp->Prop:=fun _ _=>False
  ct:St->Hp->Prop:=fun _ _=>False
noncomputable abbrev TS:=A7->St->Hp->Prop
noncomputable def EP (X:Cx) (pins:List (Addr × Obj)) (σ:St) (Q:VK) (u:Value) (s':Shared):Prop:=∃ v H',Inv X pins σ H' s' /\ RelV v u /\ Q v H'
noncomputable def TP (X:Cx) (pins:List (Addr × Obj)) (σ:St) (Q:Bool->Hp->Prop) (b:Bool) (s':Shared):Prop:=∃ H',Inv X pins σ H' s' /\ Q b H'
noncomputable def AP (X:Cx) (pins:List (Addr × Obj)) (σ:St) (Q:List V->Hp->Prop) (us:List Value) (s':Shared):Prop:=∃ vs H',Inv X pins σ H' s' /\ Vals vs us /\ Q vs H'
noncomputable def SP (X:Cx) (pins:List (Addr × Obj)) (D:A7) (f:Flow) (s':Shared):Prop :=
  match f with
  | .next=>∃ σ' H',Inv X pins σ' H' s' /\ D.nx σ' H'
  | .brk=>∃ σ' H',Inv X pins σ' H' s' /\ D.bk σ' H'
  | .cont=>∃ σ' H',Inv X pins σ' H' s' /\ D.ct σ' H'
  | .ret u=>∃ v σ' H',Inv X pins σ' H' s' /\ RelV v u /\ D.rt v H'
noncomputable def PE (X:Cx) (e:Expr) (t:TE):Prop :=
  ∀ (pins:List (Addr × Obj)) (s:Shared) (σ:St) (H:Hp) (Q:VK),Inv X pins σ H s->t σ H Q->wpAny (model X.prog X.w) X.A (eval e X.env) (EP X pins σ Q) X.xe s
noncomputable def PT (X:Cx) (e:Expr) (t:TT):Prop :=
  ∀ (pins:List (Addr × Obj)) (s:Shared) (σ:St) (H:Hp) (Q:Bool->Hp->Prop),Inv X pins σ H s->t σ H Q->wpAny (model X.prog X.w) X.A (isTrue e X.env (eval e X.env)) (TP X pins σ Q) X.xe s
noncomputable def PW (X:Cx) (e:Expr) (t:TT):Prop :=
  ∀ (whole:Sem Value) (pins:List (Addr × Obj)) (s:Shared) (σ:St) (H:Hp) (Q:Bool->Hp->Prop),Inv X pins σ H s->t σ H Q->wpAny (model X.prog X.w) X.A (isTrue e X.env whole) (TP X pins σ Q) X.xe s
theorem PW.pt {X:Cx}{e:Expr}{t:TT}(h:PW X e t):PT X e t:=h _
noncomputable def PA (X:Cx) (es:List Expr) (t:TA):Prop :=
  ∀ (pos:Pos) (pins:List (Addr × Obj)) (s:Shared) (σ:St) (H:Hp) (Q:List V->Hp->Prop),Inv X pins σ H s->t σ H Q->wpAny (model X.prog X.w) X.A (spliced (backTo pos (starEach es X.env))) (AP X pins σ Q) X.xe s
noncomputable def PS (X:Cx) (st:Stmt) (t:TS):Prop :=
  ∀ (pins:List (Addr × Obj)) (s:Shared) (σ:St) (H:Hp) (D:A7),Inv X pins σ H s->t D σ H->wpAny (model X.prog X.w) X.A (exec st X.env) (SP X pins D) X.xe s
noncomputable def PSs (X:Cx) (st:List Stmt) (t:TS):Prop :=
  ∀ (pins:List (Addr × Obj)) (s:Shared) (σ:St) (H:Hp) (D:A7),Inv X pins σ H s->t D σ H->wpAny (model X.prog X.w) X.A (execs st X.env) (SP X pins D) X.xe s
theorem thn {α:Type}{t:Sem α}{Q Q':α->Shared->Prop}{M:Model}{A:Around}{E:Value->Shared->Prop}{s:Shared}(h:wpAny M A t Q E s) (hQ:∀ a s,Q a s->Q' a s):wpAny M A t Q' E s:=wpAny_mono h hQ fun _ _ x=>x
section
variable {X:Cx}
theorem bin {a b:Expr}{ta tb:TE}(ha:PE X a ta) (hb:PE X b tb) {pins:List (Addr × Obj)}{s:Shared}{σ:St}{H:Hp}{R:V->V->Hp->Prop}(I:Inv X pins σ H s) (h:ta σ H fun x H1=>tb σ H1 fun y H2=>R x y H2)
    {α:Type}{Q:α->Shared->Prop}{f:Value->Value->Sem α}
    (hf:∀ v u s2 x y H2,Inv X pins σ H2 s2->RelV x v->RelV y u->R x y H2->wpAny (model X.prog X.w) X.A (f v u) Q X.xe s2) :
    wpAny (model X.prog X.w) X.A (eval a X.env) (fun v s₁=>wpAny (model X.prog X.w) X.A (eval b X.env) (fun u s₂=>wpAny (model X.prog X.w) X.A (f v u) Q X.xe s₂) X.xe s₁) X.xe s:=by
  refine thn (ha pins s σ H _ I h) fun v s1 ⟨x,H1,I1,r1,q1⟩=>?_
  refine thn (hb pins s1 σ H1 _ I1 q1) fun u s2 ⟨y,H2,I2,r2,q2⟩=>?_
  exact hf v u s2 x y H2 I2 r1 r2 q2
noncomputable def wG (i:Nat):TE:=fun σ H Q=>∃ v,σ[i]? = some (some v) /\ Q v H
noncomputable def tC (v:V):TE:=fun _ H Q=>Q v H
theorem jA {i:Nat}{x:Str}{pos:Pos}(hN:X.N[i]? = some x) (hv:Vis X.env.scope x) (hd:(x == ("__debug__" : Str))=false:=by decide) (hcd:(x == ("__classdict__" : Str))=false:=by decide):PE X (.Name x pos) (wG i):=by
  intro pins s σ H Q I h
  obtain⟨v,e,h⟩:=h
  obtain⟨m,hn,hl⟩:=I.loc
  obtain⟨u,r,l⟩:=hl i x v hN e hv
  have fin:EP X pins σ Q u s:=⟨v,H,I,r,h⟩
  rcases l with ⟨hk,hm⟩ | ⟨hk,c,hc,hcell⟩
  . exact wpAny_Name (wpAny_loadName_local I.ok.kind hk hn hm fin) hd
  . rcases hk with hk | hk
    . exact wpAny_Name (wpAny_loadName_cell I.ok.kind hk hc hcell fin) hd
    . exact wpAny_Name (wpAny_loadName_free I.ok.kind hk hc hcell fin hcd) hd
theorem pe_int {i j pos}:PE X (.Constant (.int i) j pos) (tC (.int i)):=fun _ _ _ H _ I h=>wpAny_Constant_int ⟨.int i,H,I.tok _,⟨_,rfl⟩,h⟩
theorem Z51 {b j pos}:PE X (.Constant (.bool b) j pos) (tC (.bl b)):=fun _ _ _ H _ I h=>Constant_bool ⟨.bl b,H,I,rfl,h⟩
theorem Z3W {j pos}:PE X (.Constant .none j pos) (tC .non):=fun _ _ _ H _ I h=>Constant_none ⟨.non,H,I,rfl,h⟩
theorem Z3U {x j pos}:PE X (.Constant (.str x) j pos) (tC (.str x)):=fun _ _ _ H _ I h=>Calls.Constant_str ⟨.str x,H,I.tok _,⟨_,rfl⟩,h⟩
noncomputable def Gl (X:Cx) (x:Str):Prop:=X.env.kindOf x=some .globalImplicit
theorem N1 {E:Value->Shared->Prop}{pins:List (Addr × Obj)}{s:Shared}{σ:St}{H:Hp}{x:Str}{u:Value}{pos:Pos}{Q:Value->Shared->Prop}(I:Inv X pins σ H s) (hg:Gl X x) (hm:X.mg x=some u) (h:Q u s)
    (hd:(x == ("__debug__" : Str))=false:=by decide):wpAny (model X.prog X.w) X.A (eval (.Name x pos) X.env) Q E s :=
  Calls.Name_function_global I.ok.kind hg (Calls.loadGlobal_global (by rw [I.ok.glob];exact I.mod.glob.keeps I.bk) hm h) hd
theorem kU {E:Value->Shared->Prop}{pins:List (Addr × Obj)}{s:Shared}{σ:St}{H:Hp}{x:Str}{u:Value}{pos:Pos}{Q:Value->Shared->Prop}(I:Inv X pins σ H s) (hg:Gl X x) (hm:X.mg x=none) (hv:bootBuiltins x=some u) (h:Q u s)
    (hn:x ≠ "__name__":=by decide) (hd:(x == ("__debug__" : Str))=false:=by decide):wpAny (model X.prog X.w) X.A (eval (.Name x pos) X.env) Q E s:=by
  obtain⟨mb,h1,h2⟩:=I.mod.blt
  exact Calls.Name_function_global I.ok.kind hg (Calls.loadGlobal_builtin (by rw [I.ok.glob];exact I.mod.glob.keeps I.bk) hm (by rw [I.ok.blt];exact h1.keeps I.bk) ((h2 x hn).trans hv) h) hd
variable {a b:Expr}{ta tb:TE}{pos:Pos}
noncomputable def PC (X:Cx) (op:CmpOp) (a b:Expr) (t:TE):Prop :=
  ∀ (pins:List (Addr × Obj)) (s:Shared) (σ:St) (H:Hp) (Q:VK),Inv X pins σ H s->t σ H Q ->
    wpAny (model X.prog X.w) X.A (eval a X.env) (fun v s₁=>wpAny (model X.prog X.w) X.A (eval b X.env) (fun u s₂=>wpAny (model X.prog X.w) X.A (compareOp op v u) (EP X pins σ Q) X.xe s₂) X.xe s₁) X.xe s
theorem Z0S (b:Expr) {op:CmpOp}(h:op ≠ .In) (h2:op ≠ .NotIn):behindInMarks op b=false:=by
  have e1:(op == CmpOp.In)=false:=by cases op <;> first | rfl | exact absurd rfl h
  have e2:(op == CmpOp.NotIn)=false:=by cases op <;> first | rfl | exact absurd rfl h2
  cases b <;> simp [behindInMarks,e1,e2]
noncomputable def tB (t:TE):TT:=fun σ H Q=>t σ H fun x H1=>∃ c,x=.bl c /\ Q c H1
theorem pt_cmp {op:CmpOp}{t:TE}(h:PC X op a b t) (h1:behindInMarks op b=false:=by first | exact Z0S _ (by decide) (by decide) | rfl):PT X (.Compare a [op] [b] pos) (tB t):=by
  intro pins s σ H Q I hw
  refine wpAny_isTrue_Compare1 (thn (h pins s σ H _ I hw) fun v s1 h1=>thn h1 fun u s2 h2=>thn h2 fun c s3 ⟨x,H1,I1,r1,q1⟩=>?_) h1
  obtain⟨d,rfl,q⟩:=q1
  cases r1
  exact wpAny_truthy_bool ⟨H1,I1,q⟩
theorem Z3P {e:Expr}{t:TE}(h:PE X e t) (he:∀ whole,isTrue e X.env whole=(do let v <- whole;standAt e.pos;holding [v] (truthy v)):=by intro _;rfl):PT X e (tB t):=by
  intro pins s σ H Q I hw
  refine isTrue_plain (thn (h pins s σ H _ I hw) fun v s1 ⟨x,H1,I1,r1,q1⟩=>?_) (he _)
  obtain⟨d,rfl,q⟩:=q1
  cases r1
  exact wpAny_truthy_bool ⟨H1,I1,q⟩
variable {tA tB':TT}{rest:List Expr}
noncomputable def Z5C (t u:TT):TT:=fun σ H Q=>t σ H fun c H1=>if c=true then u σ H1 Q else Q false H1
noncomputable def tOr (t u:TT):TT:=fun σ H Q=>t σ H fun c H1=>if c=true then Q true H1 else u σ H1 Q
theorem Z2h (ha:PT X a tA):PW X (.BoolOp .And [a] pos) tA:=by
  intro wh pins s σ H Q I h
  refine isTrue_and (thn (ha pins s σ H Q I h) fun c s1 e=>?_)
  cases c with
  | true=>exact isTrue_and_nil e
  | false=>exact e
theorem Z3N (ha:PT X a tA):PW X (.BoolOp .Or [a] pos) tA:=by
  intro wh pins s σ H Q I h
  refine isTrue_or (thn (ha pins s σ H Q I h) fun c s1 e=>?_)
  cases c with
  | false=>exact isTrue_or_nil e
  | true=>exact e
theorem Z3O (ha:PT X a tA) (hb:PW X (.BoolOp .And (b :: rest) pos) tB'):PW X (.BoolOp .And (a :: b :: rest) pos) (Z5C tA tB'):=by
  intro wh pins s σ H Q I h
  refine isTrue_and (thn (ha pins s σ H _ I h) fun c s1 ⟨H1,I1,q1⟩=>?_)
  cases c with
  | true=>exact hb wh pins s1 σ H1 Q I1 q1
  | false=>exact⟨H1,I1,q1⟩
theorem Z4X (ha:PT X a tA) (hb:PW X (.BoolOp .Or (b :: rest) pos) tB'):PW X (.BoolOp .Or (a :: b :: rest) pos) (tOr tA tB'):=by
  intro wh pins s σ H Q I h
  refine isTrue_or (thn (ha pins s σ H _ I h) fun c s1 ⟨H1,I1,q1⟩=>?_)
  cases c with
  | true=>exact⟨H1,I1,q1⟩
  | false=>exact hb wh pins s1 σ H1 Q I1 q1
noncomputable def Z4E (ta tb:TE):TE:=fun σ H Q=>ta σ H fun x H1=>∃ c,x=.bl c /\ if c=true then tb σ H1 Q else Q (.bl false) H1
theorem Z3V {op} {t:TE}(h:PE X a t):PE X (.BoolOp op [a] pos) t:=fun pins s σ H Q I hw=>BoolOp_one (h pins s σ H Q I hw)
theorem pe_and (ha:PE X a ta) (hb:PE X (.BoolOp .And (b :: rest) pos) tb):PE X (.BoolOp .And (a :: b :: rest) pos) (Z4E ta tb):=by
  intro pins s σ H Q I h
  refine BoolOp_and (thn (ha pins s σ H _ I h) fun v s1 ⟨x,H1,I1,r1,q1⟩=>?_)
  obtain⟨c,rfl,q1⟩:=q1
  cases r1
  refine wpAny_truthy_bool ?_
  cases c with
  | true=>exact hb pins s1 σ H1 Q I1 q1
  | false=>exact⟨.bl false,H1,I1,rfl,q1⟩
end
noncomputable def SqL (K:Frag) (H:Hp) (a:Addr) (xs:List V):Prop :=
  Rd H a (.lst xs) \/
    ∃ (o:Obj) (its:Array Value) (n:Nat),K.lookup a=some o /\ o.cls=.type "list" /\ o.dict=none /\ o.data=.seq its n /\ its.size <= sizeLine /\ Vals xs its.toList
noncomputable def SqT (K:Frag) (H:Hp) (a:Addr) (xs:List V):Prop :=
  Rd H a (.tup xs) \/
    ∃ (o:Obj) (its:Array Value) (n:Nat),K.lookup a=some o /\ o.cls=.type "tuple" /\ o.data=.seq its n /\ its.size <= sizeLine /\ Vals xs its.toList
noncomputable def Z5Q:Value->Option V
  | .none=>some .non
  | .bool b=>some (.bl b)
  | .int i _=>some (.int i)
  | .str x _=>some (.str x)
  | .bytes b _=>some (.byt b)
  | .float b _=>some (.flt b)
  | .ref a=>some (.ref a)
  | .type n=>some (.ty n)
  | _=>none
theorem RelV.abs {x:V}{u:Value}(r:RelV x u):Z5Q u=some x:=by
  cases x with
  | non=>cases r;rfl
  | bl _=>cases r;rfl
  | int _=>obtain⟨t,rfl⟩:=r;rfl
  | str _=>obtain⟨t,rfl⟩:=r;rfl
  | byt _=>obtain⟨t,rfl⟩:=r;rfl
  | flt _=>obtain⟨t,rfl⟩:=r;rfl
  | ref _=>cases r;rfl
  | ty _=>cases r;rfl
theorem RelV.inj {x y:V}{u:Value}(r:RelV x u) (q:RelV y u):x=y:=Option.some.inj (r.abs.symm.trans q.abs)
theorem Vals.inj:∀ {xs ys:List V}{us:List Value},Vals xs us->Vals ys us->xs=ys
  | _,_,_,.nil,.nil=>rfl
  | _,_,_,.cons r t,.cons r' t'=>by rw [r.inj r',Vals.inj t t']
section
variable {X:Cx}{pins:List (Addr × Obj)}{σ:St}{H:Hp}{s:Shared}{a:Addr}{xs ys:List V}
theorem SqL.of {K:Frag}(h:H a=some (.lst xs)):SqL K H a xs:=.inl (.inl h)
theorem SqT.of {K:Frag}(h:H a=some (.tup xs)):SqT K H a xs:=.inl (.inl h)
theorem Inv.list (I:Inv X pins σ H s) (h:SqL X.K H a xs):∃ its:List Value,Vals xs its /\ PlainL s.heap a its.toArray /\ xs.length <= sizeLine:=by
  rcases h with h | ⟨o,its,n,hk,hc,hd,hs,hz,r⟩
  . obtain⟨z,its,n,r,e⟩:=h.ok I.hok
    exact⟨its,r,⟨_,n,e,rfl,rfl,rfl⟩,z⟩
  . refine⟨its.toList,r,⟨o,n,I.kIn a o hk,hc,hd,by simpa using hs⟩,?_⟩
    have e:=r.length
    simp only [Array.length_toList] at e
    omega
theorem Inv.tuple (I:Inv X pins σ H s) (h:SqT X.K H a xs):∃ its:List Value,Vals xs its /\ IsTup s.heap a its.toArray /\ xs.length <= sizeLine:=by
  rcases h with h | ⟨o,its,n,hk,hc,hs,hz,r⟩
  . obtain⟨z,its,r,p⟩:=h.ok I.hok
    exact⟨its,r,p,z⟩
  . refine⟨its.toList,r,⟨o,I.kIn a o hk,hc,n,by simpa using hs⟩,?_⟩
    have e:=r.length
    simp only [Array.length_toList] at e
    omega
theorem Inv.list_inj (I:Inv X pins σ H s) (h:SqL X.K H a xs) (h':SqL X.K H a ys):xs=ys:=by
  obtain⟨its,r,⟨o,n,e,_,_,d⟩,_⟩:=I.list h
  obtain⟨its',r',⟨o',n',e',_,_,d'⟩,_⟩:=I.list h'
  rw [e] at e';cases e'
  rw [d] at d'
  injection d' with d1 _
  have:its=its':=by simpa using congrArg Array.toList d1
  subst this
  exact r.inj r'
theorem Inv.tuple_inj (I:Inv X pins σ H s) (h:SqT X.K H a xs) (h':SqT X.K H a ys):xs=ys:=by
  obtain⟨its,r,⟨o,e,_,n,d⟩,_⟩:=I.tuple h
  obtain⟨its',r',⟨o',e',_,n',d'⟩,_⟩:=I.tuple h'
  rw [e] at e';cases e'
  rw [d] at d'
  injection d' with d1 _
  have:its=its':=by simpa using congrArg Array.toList d1
  subst this
  exact r.inj r'
end
noncomputable abbrev Cx.wish (X:Cx) (E:Value->Shared->Prop):Cx:={ X with xe:=E }
noncomputable abbrev Cx.nox (X:Cx):Cx:=X.wish fun _ _=>False
theorem Cx.Ok.wish {X:Cx}(ok:X.Ok) (E:Value->Shared->Prop):(X.wish E).Ok :=
  ⟨ok.mod,ok.kind,ok.glob,ok.blt,ok.above,ok.inj,ok.has,ok.cab,ok.hd,ok.frames,ok.stk,ok.exf,ok.bs,ok.bsz,ok.noex,ok.exfs,ok.funs,ok.frf⟩
theorem Cx.Ok.unwish {X:Cx}{E:Value->Shared->Prop}(ok:(X.wish E).Ok):X.Ok :=
  ⟨ok.mod,ok.kind,ok.glob,ok.blt,ok.above,ok.inj,ok.has,ok.cab,ok.hd,ok.frames,ok.stk,ok.exf,ok.bs,ok.bsz,ok.noex,ok.exfs,ok.funs,ok.frf⟩
section
variable {X:Cx}{pins:List (Addr × Obj)}{σ:St}{H:Hp}{s:Shared}{E:Value->Shared->Prop}
theorem Inv.wish (I:Inv X pins σ H s) (E:Value->Shared->Prop):Inv (X.wish E) pins σ H s:=⟨I.ok.wish E,I.os,I.bare,I.base,I.loc,I.cell,I.free,I.freeC,I.pin,I.hok,I.len⟩
theorem Inv.unwish (I:Inv (X.wish E) pins σ H s):Inv X pins σ H s:=⟨I.ok.unwish,I.os,I.bare,I.base,I.loc,I.cell,I.free,I.freeC,I.pin,I.hok,I.len⟩
theorem SP.unwish {D:A7}{f:Flow}{s':Shared}(h:SP (X.wish E) pins D f s'):SP X pins D f s':=by
  cases f with
  | next=>obtain⟨σ',H',I,q⟩:=h;exact⟨σ',H',I.unwish,q⟩
  | brk=>obtain⟨σ',H',I,q⟩:=h;exact⟨σ',H',I.unwish,q⟩
  | cont=>obtain⟨σ',H',I,q⟩:=h;exact⟨σ',H',I.unwish,q⟩
  | ret u=>obtain⟨v,σ',H',I,r,q⟩:=h;exact⟨v,σ',H',I.unwish,r,q⟩
theorem PE.nox {e:Expr}{t:TE}(h:PE X.nox e t):PE X e t:=fun pins s σ H Q I hw =>
  wpAny_mono (h pins s σ H Q (I.wish _) hw) (fun _ _ ⟨v,H',I',r,q⟩=>⟨v,H',I'.unwish,r,q⟩) fun _ _ z=>False.elim z
theorem PT.nox {e:Expr}{t:TT}(h:PT X.nox e t):PT X e t:=fun pins s σ H Q I hw =>
  wpAny_mono (h pins s σ H Q (I.wish _) hw) (fun _ _ ⟨H',I',q⟩=>⟨H',I'.unwish,q⟩) fun _ _ z=>False.elim z
theorem PSs.nox {st:List Stmt}{t:TS}(h:PSs X.nox st t):PSs X st t:=fun pins s σ H D I hw =>
  wpAny_mono (h pins s σ H D (I.wish _) hw) (fun _ _ q=>q.unwish) fun _ _ z=>False.elim z
end
section
variable {X:Cx}{st:Stmt}{rest:List Stmt}{t u:TS}{e:Expr}{te:TE}{pos:Pos}
noncomputable def Z4y:TS:=fun D σ H=>D.nx σ H
noncomputable def Z3x (t u:TS):TS:=fun D σ H=>t { D with nx:=u D } σ H
theorem Z2l:PSs X [] Z4y:=fun _ _ σ H _ I h=>wpAny_execs_nil ⟨σ,H,I,h⟩
theorem sM (h1:PS X st t) (h2:PSs X rest u):PSs X (st :: rest) (Z3x t u):=by
  intro pins s σ H D I h
  refine wpAny_execs_cons (thn (h1 pins s σ H { D with nx:=u D } I h) fun f s1 q=>?_)
  cases f with
  | next =>
    obtain⟨σ',H',I',q⟩:=q
    exact h2 pins s1 σ' H' D I' q
  | ret v=>exact q
  | brk=>exact q
  | cont=>exact q
theorem M6 (h1:PS X st t):PSs X [st] t:=by
  intro pins s σ H D I h
  refine wpAny_execs_cons (thn (h1 pins s σ H D I h) fun f s1 q=>?_)
  cases f with
  | next=>exact wpAny_execs_nil q
  | ret v=>exact q
  | brk=>exact q
  | cont=>exact q
theorem Inv.quiet {pins:List (Addr × Obj)}{σ:St}{H:Hp}{s:Shared}(I:Inv X pins σ H s):interactive X.env=false:=by simp [interactive,I.ok.kind]
noncomputable def Z4C (te:TE):TS:=fun D σ H=>te σ H fun _ H1=>D.nx σ H1
theorem M7 (he:PE X e te) (hs:swapsWith e none pos.line X.env=pure false:=by rfl):PS X (.Expr e pos) (Z4C te):=by
  intro pins s σ H D I h
  exact wpAny_Expr_any (thn (he pins s σ H _ I h) fun v s1 ⟨x,H1,I1,r1,q1⟩=>⟨σ,H1,I1,q1⟩) I.quiet hs
noncomputable def Z5w (te:TE):TS:=fun D σ H=>te σ H D.rt
theorem wO (he:PE X e te):PS X (.Return (some e) pos) (Z5w te):=by
  intro pins s σ H D I h
  exact wpAny_Return_some (thn (he pins s σ H _ I h) fun v s1 ⟨x,H1,I1,r1,q1⟩=>⟨x,σ,H1,I1,r1,q1⟩)
noncomputable def Z5x (c:TT) (t u:TS):TS:=fun D σ H=>c σ H fun b H1=>if b=true then t D σ H1 else u D σ H1
theorem Z4Y {c:Expr}{a b:List Stmt}{tc:TT}(hc:PT X c tc) (ha:PSs X a t) (hb:PSs X b u):PS X (.If c a b pos) (Z5x tc t u):=by
  intro pins s σ H D I h
  refine wpAny_If (thn (hc pins s σ H _ I h) fun d s1 ⟨H1,I1,q1⟩=>?_)
  cases d with
  | true=>exact ha pins s1 σ H1 D I1 q1
  | false=>exact hb pins s1 σ H1 D I1 q1
end
noncomputable abbrev TG:=V->St->Hp->(St->Hp->Prop)->Prop
noncomputable abbrev TGs:=List V->St->Hp->(St->Hp->Prop)->Prop
noncomputable def PG (X:Cx) (target:Expr) (t:TG):Prop :=
  ∀ (pins:List (Addr × Obj)) (s:Shared) (σ:St) (H:Hp) (v:V) (u:Value) (Q:St->Hp->Prop),Inv X pins σ H s->RelV v u->t v σ H Q ->
    wpAny (model X.prog X.w) X.A (assign target X.env u) (fun _ s'=>∃ σ' H',Inv X pins σ' H' s' /\ Q σ' H') X.xe s
noncomputable def PGs (X:Cx) (ts:List Expr) (t:TGs):Prop :=
  ∀ (pins:List (Addr × Obj)) (s:Shared) (σ:St) (H:Hp) (vs:List V) (us:List Value) (Q:St->Hp->Prop),Inv X pins σ H s->Vals vs us->t vs σ H Q ->
    wpAny (model X.prog X.w) X.A (assignInOrder ((assignEach ts X.env).map (·.2)) us) (fun _ s'=>∃ σ' H',Inv X pins σ' H' s' /\ Q σ' H') X.xe s
noncomputable abbrev Z4n:=V->V->V->Hp->(Hp->Prop)->Prop
noncomputable def Z5q (X:Cx) (t:Z4n):Prop :=
  ∀ (pins:List (Addr × Obj)) (s:Shared) (σ:St) (H:Hp) (o i v:V) (ov iv u:Value) (Q:Hp->Prop),Inv X pins σ H s->RelV o ov->RelV i iv->RelV v u->t o i v H Q ->
    wpAny (model X.prog X.w) X.A (setItem ov iv u) (fun _ s'=>∃ H',Inv X pins σ H' s' /\ Q H') X.xe s
section
variable {X:Cx}{pos:Pos}
noncomputable def tM (i:Nat):TG:=fun v σ H Q=>Q (σ.set i (some v)) H
theorem fN {i:Nat}{x:Str}(hN:X.N.Nodup) (hi:X.N[i]? = some x) (hx:Loc X.env.scope x) (hf:X.fn x=true \/ X.env.scope.names.lookup x=some .local:=by first | exact .inl rfl | exact .inr rfl | assumption):PG X (.Name x pos) (tM i):=by
  intro pins s σ H v u Q I r h
  exact wpAny_assign_Name (yH I hN hi hx r (fun s' I'=>⟨_,H,I',h⟩) hf)
noncomputable def Z5k:TGs:=fun vs σ H Q=>vs=[] /\ Q σ H
noncomputable def Z3o (t:TG) (u:TGs):TGs:=fun vs σ H Q=>∃ v r,vs=v :: r /\ t v σ H fun σ' H'=>u r σ' H' Q
theorem rP:PGs X [] Z5k:=by
  intro pins s σ H vs us Q I r h
  obtain⟨e,h⟩:=h
  subst e
  cases r
  exact assignInOrder_nil ⟨σ,H,I,h⟩
theorem gL {e:Expr}{es:List Expr}{t:TG}{u:TGs}(h1:PG X e t) (h2:PGs X es u)
    (hs:(assignEach (e :: es) X.env).map (·.2)=assign e X.env :: (assignEach es X.env).map (·.2):=by rfl):PGs X (e :: es) (Z3o t u):=by
  intro pins s σ H vs us Q I r h
  obtain⟨v,vr,e1,h⟩:=h
  subst e1
  cases r with
  | cons r rr =>
    rw [hs]
    refine assignInOrder_cons (thn (h1 pins s σ H _ _ _ I r h) fun _ s1 ⟨σ1,H1,I1,q1⟩=>?_)
    exact h2 pins s1 σ1 H1 _ _ Q I1 rr q1
noncomputable def Z5i (K:Frag) (n:Nat) (t:TGs):TG:=fun v σ H Q=>∃ a xs,v=.ref a /\ SqT K H a xs /\ xs.length=n /\ t xs σ H Q
theorem Z0D {es:List Expr}{k:Nat}{t:TGs}{n:Nat}(hc:X.calm=true) (h:PGs X es t)
    (hn:(assignEach es X.env).length=n:=by rfl) (hst:(assignEach es X.env).findIdx? (·.1)=none:=by rfl):PG X (.Tuple es k pos) (Z5i X.K n t):=by
  intro pins s σ H v u Q I r hw
  obtain⟨a,xs,e1,hq,hl,hw⟩:=hw
  subst e1
  cases r
  obtain⟨its,rv,ht,hz⟩:=I.tuple hq
  refine assign_Tuple_tuple (I.ok.hd hc) ht (by simp [hn,<- hl,rv.length]) hst fun h' hx=>?_
  have I1:Inv X pins σ H { s with heap:=h' }:=I.kept (t':=s.toks) fun b o e=>hx b o (Nat.ne_of_lt (Heap.lt_size e)) e
  exact h pins _ σ H xs _ Q I1 (by simpa using rv) hw
noncomputable def Z5j (to ti:TE) (t:Z4n):TG:=fun v σ H Q=>to σ H fun o H1=>ti σ H1 fun i H2=>t o i v H2 fun H3=>Q σ H3
theorem Z3T {o i:Expr}{to ti:TE}{t:Z4n}(ho:PE X o to) (hi:PE X i ti) (hs:Z5q X t)
    (ha:∀ v,assign (.Subscript o i pos) X.env v=(do
      let ov <- holding [v] (eval o X.env)
      let iv <- holding [v,ov] (eval i X.env)
      standAt pos
      holding [v,ov,iv] (setItem ov iv v)
      release [v,ov,iv] []):=by intro _;rfl):PG X (.Subscript o i pos) (Z5j to ti t):=by
  intro pins s σ H v u Q I r h
  rw [ha]
  refine wpAny_bind (wpAny_holding (thn (ho pins s σ H _ I h) fun ov s1 ⟨x,H1,I1,r1,q1⟩=>?_))
  refine wpAny_bind (wpAny_holding (thn (hi pins s1 σ H1 _ I1 q1) fun iv s2 ⟨y,H2,I2,r2,q2⟩=>?_))
  refine wpAny_bind (wpAny_standAt (wpAny_bind (wpAny_holding (thn (hs pins s2 σ H2 x y v ov iv u _ I2 r1 r2 r q2) fun _ s3 ⟨H3,I3,q3⟩=>?_))))
  exact wpAny_release ⟨σ,H3,I3,q3⟩
noncomputable def Q7 (te:TE) (g:TG):TS:=fun D σ H=>te σ H fun x H1=>g x σ H1 D.nx
theorem Z0A {tg e:Expr}{te:TE}{g:TG}(he:PE X e te) (hg:PG X tg g) (hs:swapsWithSole [tg] e pos.line X.env=pure false:=by rfl) (hw:swappedStores [tg] e X.env=pure none:=by rfl)
    (h1:(assignEach [tg] X.env).map (·.2)=[assign tg X.env]:=by rfl):PS X (.Assign [tg] e pos) (Q7 te g):=by
  intro pins s σ H D I h
  refine wpAny_Assign_stores (thn (he pins s σ H _ I h) fun v s1 ⟨x,H1,I1,r1,q1⟩=>?_) hs hw
  rw [h1]
  exact thn (hg pins s1 σ H1 x v _ I1 r1 q1) fun _ s2 q=>q
theorem Z0z {i:Nat}{x:Str}{e:Expr}{te:TE}{pos':Pos}(hN:X.N.Nodup) (hi:X.N[i]? = some x) (hx:Loc X.env.scope x) (he:PE X e te) (hs:swapsWith e (some (.Name x pos')) pos.line X.env=pure false:=by rfl) (hf:X.fn x=true \/ X.env.scope.names.lookup x=some .local:=by first | exact .inl rfl | exact .inr rfl | assumption) :
    PS X (.Assign [.Name x pos'] e pos) (Q7 te (tM i)):=by
  intro pins s σ H D I h
  refine wpAny_Assign_Name (thn (he pins s σ H _ I h) fun v s1 ⟨y,H1,I1,r1,q1⟩=>?_) hs
  exact yH I1 hN hi hx r1 (fun s2 I2=>⟨_,H1,I2,q1⟩) hf
end
section
variable {X:Cx}{pos:Pos}
end
structure It where
  go:Nat->Hp->Prop
  yld:Nat->Hp->V->Hp->Prop
  stop:Nat->Hp->Prop
noncomputable def uQ (X:Cx) (pins:List (Addr × Obj)) (H:Hp) (b:Addr):Prop :=
  H b=none /\ b ≠ X.env.locals /\ b ∉ X.fs /\ (b ∈ X.ex \/ X.s₀.heap.objs.size <= b) /\ (∀ x c,X.env.cells.lookup x=some c->c ≠ b) /\ ∀ p ∈ X.pn ++ pins,p.1 ≠ b
theorem Inv.fpOk {X:Cx}{pins:List (Addr × Obj)}{σ:St}{H H':Hp}{s:Shared}{b:Addr}(I:Inv X pins σ H s) (hb:s.heap.objs.size <= b) (hn:H' b=none):uQ X pins H' b:=by
  refine⟨hn,Nat.ne_of_gt (Nat.lt_of_lt_of_le I.lt hb),I.nofs hb,.inr (Nat.le_trans I.sz hb),fun x c e z=>?_,fun p hp z=>?_⟩
  . obtain⟨v,q⟩:=I.cell x c e
    exact absurd (Nat.lt_of_lt_of_le q.lt (by rw [z];exact hb)) (Nat.lt_irrefl _)
  . exact absurd (Nat.lt_of_lt_of_le (Heap.lt_size (I.pin p hp).1) (by rw [z];exact hb)) (Nat.lt_irrefl _)
structure xQ (P:Program) (w:World) (K:Frag) (tg:Expr) (J:It) (fp:List Addr) (it:Addr) (tn:Nat->Heap->Prop):Prop where
  mem:it ∈ fp
  obj:∀ i h,tn i h->∀ b ∈ fp,∃ o,h.get? b=some o /\ ∀ v,o.data ≠ .cell v
  keep:∀ i h h',tn i h->(∀ b ∈ fp,∀ o,h.get? b=some o->h'.get? b=some o)->tn i h'
  item:∀ (X:Cx),X.prog=P->X.w=w->X.K=K->X.calm=true->∀ (i:Nat) (pins:List (Addr × Obj)) (s:Shared) (σ:St) (H:Hp) (E:Value->Shared->Prop),Inv X pins σ H s->(∀ b ∈ fp,uQ X pins H b)->tn i s.heap->J.go i H ->
    wpAny (model P w) X.A (pyNext (.ref it)) (fun r s1=>∃ u,r=some u /\
      wpAny (model P w) X.A (letOwnedTupleGo tg (.ref it) u) (fun _ s2=>∃ x H',Inv X pins σ H' s2 /\ RelV x u /\ J.yld i H x H' /\ tn (i + 1) s2.heap /\ ∀ b ∈ fp,H' b=none) E s1) E s
  done:∀ (X:Cx),X.prog=P->X.w=w->X.K=K->X.calm=true->∀ (i:Nat) (pins:List (Addr × Obj)) (s:Shared) (σ:St) (H:Hp) (E:Value->Shared->Prop),Inv X pins σ H s->(∀ b ∈ fp,uQ X pins H b)->tn i s.heap->J.stop i H ->
    wpAny (model P w) X.A (pyNext (.ref it)) (fun r s1=>r=none /\ Inv X pins σ H s1) E s
  self:∀ (A:Around) (i:Nat) (s:Shared) (Q:Value->Shared->Prop) (E:Value->Shared->Prop),tn i s.heap->Q (.ref it) s->wpAny (model P w) A (pyIter (.ref it)) Q E s
noncomputable abbrev TI:=St->Hp->(It->Hp->Prop)->Prop
noncomputable def PIE (X:Cx) (pins:List (Addr × Obj)) (σ:St) (tg:Expr) (R:It->Hp->Prop) (itv:Value) (s2:Shared):Prop :=
  ∃ (it:Addr) (fp:List Addr) (tn:Nat->Heap->Prop) (J:It) (H':Hp),itv=.ref it /\ Inv X pins σ H' s2 /\ xQ X.prog X.w X.K tg J fp it tn /\ tn 0 s2.heap /\ (∀ b ∈ fp,uQ X pins H' b) /\ R J H'
noncomputable def PI (X:Cx) (tg iter:Expr) (wi:TI):Prop :=
  ∀ (pins:List (Addr × Obj)) (s:Shared) (σ:St) (H:Hp) (R:It->Hp->Prop),Inv X pins σ H s->wi σ H R ->
    wpAny (model X.prog X.w) X.A (eval iter X.env) (fun v s1=>wpAny (model X.prog X.w) X.A (pyIter v) (PIE X pins σ tg R) X.xe s1) X.xe s
theorem zG {M:Model}{A:Around}{E:Value->Shared->Prop}{s:Shared}{tg:Expr}{it:Addr}{u:Value}{o:Obj}{n:String}{vs:Array Value}{Q:Unit->Shared->Prop}(ho:s.heap.get? it=some o) (hc:o.cls=.type n) (hd:o.data=.fields vs)
    (hn:["enumerate","zip","dict_itemiterator","dict_reverseitemiterator","odict_iterator","itertools.zip_longest","itertools.pairwise"].contains n=false) (hQ:Q () s):wpAny M A (letOwnedTupleGo tg (.ref it) u) Q E s:=by
  unfold letOwnedTupleGo
  cases tg <;> first
    | exact wpAny_pure hQ
    | (cases u <;> first
        | exact wpAny_pure hQ
        | (refine wpAny_bind (wpAny_load ho ?_)
           rw [hc,hd]
           show wpAny M A (if (["enumerate","zip","dict_itemiterator","dict_reverseitemiterator","odict_iterator","itertools.zip_longest","itertools.pairwise"].contains n && vs[0]? == some (rawInt _))=true then _ else _) Q E s
           rw [if_neg (by intro h;rw [hn,Bool.false_and] at h;cases h)]
           exact wpAny_pure hQ))
noncomputable def Itl (K:Frag) (a:Addr):It :=
  ⟨fun i H=>∃ xs x,SqL K H a xs /\ xs[i]? = some x,fun i H x H'=>H'=H /\ ∀ xs,SqL K H a xs->xs[i]? = some x,fun i H=>∃ xs,SqL K H a xs /\ xs.length <= i⟩
noncomputable def Itt (K:Frag) (a:Addr):It :=
  ⟨fun i H=>∃ xs x,SqT K H a xs /\ xs[i]? = some x,fun i H x H'=>H'=H /\ ∀ xs,SqT K H a xs->xs[i]? = some x,fun i H=>∃ xs,SqT K H a xs /\ xs.length <= i⟩
noncomputable def Itr (lo:Int) (n:Nat):It:=⟨fun i _=>i < n,fun i H x H'=>H'=H /\ x=.int (lo + i),fun i _=>n <= i⟩
theorem P8 {P:Program}{w:World}{K:Frag}{tg:Expr}(a it:Addr):xQ P w K tg (Itl K a) [it] it (fun i h=>h.IsListIter it a i) where
  mem:=by simp
  obj:=fun i h st b hb=>by
    have e:b=it:=by simpa using hb
    subst e
    obtain⟨o,e,c,d⟩:=st
    exact⟨o,e,fun v z=>by rw [d] at z;cases z⟩
  keep:=fun i h h' st k=>st.at fun o e=>k it (by simp) o e
  item:=by
    intro X hP hw hK hc i pins s σ H E I hf st hg
    subst hP hw hK
    obtain⟨xs,x,hq,hx⟩:=hg
    obtain⟨its,rv,p,hz⟩:=I.list hq
    obtain⟨u,hu,ru⟩:=rv.get hx
    obtain⟨f0,f1,f2,f3,f4,f5⟩:=hf it (by simp)
    refine wpAny_pyNext_list_item st p.isList (x:=u) (by simpa using hu) fun h' st' sb=>?_
    have I1:Inv X pins σ H { s with heap:=h' }:=I.turned (t':=s.toks) (fun b o hb e=>(sb.2 b hb).trans e) f0 f1 f3 f4 f5
    obtain⟨o,e,c,d⟩:=id st'
    exact⟨u,rfl,zG (s:={ s with heap:=h' }) e c d (by decide) ⟨x,H,I1,ru,⟨rfl,fun ys hy=>by rw [I.list_inj hy hq];exact hx⟩,st',fun b hb=>(hf b hb).1⟩⟩
  done:=by
    intro X hP hw hK hc i pins s σ H E I hf st hg
    subst hP hw hK
    obtain⟨xs,hq,hx⟩:=hg
    obtain⟨its,rv,p,hz⟩:=I.list hq
    obtain⟨f0,f1,f2,f3,f4,f5⟩:=hf it (by simp)
    have hl:=rv.length
    exact wpAny_pyNext_list_end (I.ok.hd hc) st p.isList (by simp;omega) fun h' eb=>⟨rfl,I.turned (t':=s.toks) (fun b o hb e=>eb b o hb e) f0 f1 f3 f4 f5⟩
  self:=fun _ _ _ _ _ st h=>wpAny_pyIter_listiter st h
theorem A9 {P:Program}{w:World}{K:Frag}{tg:Expr}(a it:Addr):xQ P w K tg (Itt K a) [it] it (fun i h=>h.IsTupleIter it a i) where
  mem:=by simp
  obj:=fun i h st b hb=>by
    have e:b=it:=by simpa using hb
    subst e
    obtain⟨o,e,c,d⟩:=st
    exact⟨o,e,fun v z=>by rw [d] at z;cases z⟩
  keep:=fun i h h' st k=>st.at fun o e=>k it (by simp) o e
  item:=by
    intro X hP hw hK hc i pins s σ H E I hf st hg
    subst hP hw hK
    obtain⟨xs,x,hq,hx⟩:=hg
    obtain⟨its,rv,p,hz⟩:=I.tuple hq
    obtain⟨u,hu,ru⟩:=rv.get hx
    obtain⟨f0,f1,f2,f3,f4,f5⟩:=hf it (by simp)
    refine wpAny_pyNext_tuple_item st (show s.heap.IsTuple a its.toArray from p) (x:=u) (by simpa using hu) fun h' st' sb=>?_
    have I1:Inv X pins σ H { s with heap:=h' }:=I.turned (t':=s.toks) (fun b o hb e=>(sb.2 b hb).trans e) f0 f1 f3 f4 f5
    obtain⟨o,e,c,d⟩:=id st'
    exact⟨u,rfl,zG (s:={ s with heap:=h' }) e c d (by decide) ⟨x,H,I1,ru,⟨rfl,fun ys hy=>by rw [I.tuple_inj hy hq];exact hx⟩,st',fun b hb=>(hf b hb).1⟩⟩
  done:=by
    intro X hP hw hK hc i pins s σ H E I hf st hg
    subst hP hw hK
    obtain⟨xs,hq,hx⟩:=hg
    obtain⟨its,rv,p,hz⟩:=I.tuple hq
    obtain⟨f0,f1,f2,f3,f4,f5⟩:=hf it (by simp)
    have hl:=rv.length
    exact wpAny_pyNext_tuple_end (I.ok.hd hc) st (show s.heap.IsTuple a its.toArray from p) (by simp;omega) fun h' eb=>⟨rfl,I.turned (t':=s.toks) (fun b o hb e=>eb b o hb e) f0 f1 f3 f4 f5⟩
  self:=fun _ _ _ _ _ st h=>wpAny_pyIter_tupleiter st h
theorem B0 {P:Program}{w:World}{K:Frag}{tg:Expr}(it:Addr) (lo:Int) (n:Nat):xQ P w K tg (Itr lo n) [it] it (fun i h=>IsRangeIter h it (lo + (i:Nat) * 1) ((n:Int) - (i:Nat)) 1) where
  mem:=by simp
  obj:=fun i h st b hb=>by
    have e:b=it:=by simpa using hb
    subst e
    exact⟨_,st,fun v z=>by
      have z':Data.fields _=Data.cell v:=z
      cases z'⟩
  keep:=fun i h h' st k=>k it (by simp) _ st
  item:=by
    intro X hP hw hK hc i pins s σ H E I hf st hg
    subst hP hw hK
    obtain⟨f0,f1,f2,f3,f4,f5⟩:=hf it (by simp)
    have W:=Walks.range (prog:=X.prog) (w:=X.w) (I.ok.hd hc) it lo 1 n
    refine W.item i s _ _ hg st fun v h' tk hv st' kk=>?_
    obtain⟨t,rfl⟩:=hv
    have I1:Inv X pins σ H { s with heap:=h',toks:=tk }:=I.turned (fun b o hb e=>kk b o (by simpa using hb) e) f0 f1 f3 f4 f5
    refine⟨_,rfl,zG (s:={ s with heap:=h',toks:=tk }) (n := "range_iterator") st' rfl rfl (by decide) ⟨.int (lo + i),H,I1,⟨t,?_⟩,⟨rfl,rfl⟩,st',fun b hb=>(hf b hb).1⟩⟩
    rw [Int.mul_one]
  done:=by
    intro X hP hw hK hc i pins s σ H E I hf st hg
    subst hP hw hK
    obtain⟨f0,f1,f2,f3,f4,f5⟩:=hf it (by simp)
    exact wpAny_pyNext_range_end (I.ok.hd hc) st (by have:n <= i:=hg;omega) fun h' eb=>⟨rfl,I.turned (t':=s.toks) (fun b o hb e=>eb b o hb e) f0 f1 f3 f4 f5⟩
  self:=fun _ _ _ _ _ st h=>wpAny_pyIter_rangeiter st h
section
variable {X:Cx}{tg:Expr}
noncomputable def Z5f (K:Frag) (tl:TE):TI:=fun σ H R=>tl σ H fun x H1=>∃ a,x=.ref a /\ (∃ xs,SqL K H1 a xs) /\ R (Itl K a) H1
noncomputable def Z5N (K:Frag) (tl:TE):TI:=fun σ H R=>tl σ H fun x H1=>∃ a,x=.ref a /\ (∃ xs,SqT K H1 a xs) /\ R (Itt K a) H1
theorem Z2r {l:Expr}{tl:TE}(hl:PE X l tl):PI X tg l (Z5f X.K tl):=by
  intro pins s σ H R I h
  refine thn (hl pins s σ H _ I h) fun v s1 ⟨x,H1,I1,r1,q1⟩=>?_
  obtain⟨a,e,⟨xs,hq⟩,q⟩:=q1
  subst e
  cases r1
  obtain⟨its,rv,p,hz⟩:=I1.list hq
  refine wpAny_pyIter_list p.isList ?_
  refine⟨s1.heap.objs.size,[s1.heap.objs.size],_,_,H1,rfl,I1.kept (t':=s1.toks) fun b o e=>Heap.get?_push_of_some _ e,P8 a _,⟨_,Heap.get?_push_size _ rfl,rfl,rfl⟩,fun b hb=>?_,q⟩
  have e:b=s1.heap.objs.size:=by simpa using hb
  subst e
  exact I1.fpOk (Nat.le_refl _) (I1.hok.fresh (Nat.le_refl _))
theorem Z3S {l:Expr}{tl:TE}(hl:PE X l tl):PI X tg l (Z5N X.K tl):=by
  intro pins s σ H R I h
  refine thn (hl pins s σ H _ I h) fun v s1 ⟨x,H1,I1,r1,q1⟩=>?_
  obtain⟨a,e,⟨xs,hq⟩,q⟩:=q1
  subst e
  cases r1
  obtain⟨its,rv,p,hz⟩:=I1.tuple hq
  refine wpAny_pyIter_tuple (show s1.heap.IsTuple a its.toArray from p) ?_
  refine⟨s1.heap.objs.size,[s1.heap.objs.size],_,_,H1,rfl,I1.kept (t':=s1.toks) fun b o e=>Heap.get?_push_of_some _ e,A9 a _,⟨_,Heap.get?_push_size _ rfl,rfl,rfl⟩,fun b hb=>?_,q⟩
  have e:b=s1.heap.objs.size:=by simpa using hb
  subst e
  exact I1.fpOk (Nat.le_refl _) (I1.hok.fresh (Nat.le_refl _))
theorem yJ {pins:List (Addr × Obj)}{σ:St}{H:Hp}{s:Shared}{R:It->Hp->Prop}{E:Value->Shared->Prop}{lo hi:Int}{t u v:Tok}{tk:Nat}(I:Inv X pins σ H s) (h1:-(2 ^ 62) <= lo) (h2:lo < 2 ^ 62) (h3:-(2 ^ 62) <= hi) (h4:hi < 2 ^ 62)
    (q:R (Itr lo (hi - lo).toNat) H):wpAny (model X.prog X.w) X.A (pyIter (.ref s.heap.objs.size)) (PIE X pins σ tg R) E { s with heap:=s.heap.push { cls:=.type "range",data:=.fields #[.int lo t,.int hi u,.int 1 v] },toks:=tk }:=by
  refine wpAny_pyIter_range (IsRange.new ..) (small_one h1 h2 h3 h4) ?_
  have I1:Inv X pins σ H { s with heap:=s.heap.push { cls:=.type "range",data:=.fields #[.int lo t,.int hi u,.int 1 v] },toks:=tk }:=I.kept fun b o e=>Heap.get?_push_of_some _ e
  refine⟨(s.heap.push { cls:=.type "range",data:=.fields #[.int lo t,.int hi u,.int 1 v] }).objs.size,[(s.heap.push { cls:=.type "range",data:=.fields #[.int lo t,.int hi u,.int 1 v] }).objs.size],_,_,H,rfl,
    I1.kept (t':=tk) fun b o e=>Heap.get?_push_of_some _ e,B0 _ lo (hi - lo).toNat,?_,fun b hb=>?_,q⟩
  . have e1:lo + ((0:Nat):Int) * 1=lo:=by simp
    have e2:(((hi - lo).toNat:Nat):Int) - ((0:Nat):Int)=Builtin.Range.rangeSize lo hi 1:=by rw [rangeSize_one];split <;> omega
    show IsRangeIter _ _ (lo + ((0:Nat):Int) * 1) ((((hi - lo).toNat:Nat):Int) - ((0:Nat):Int)) 1
    rw [e1,e2]
    exact Heap.get?_push_size _ rfl
  . have e:b=(s.heap.push { cls:=.type "range",data:=.fields #[.int lo t,.int hi u,.int 1 v] }).objs.size:=by simpa using hb
    subst e
    exact I1.fpOk (Nat.le_refl _) (I1.hok.fresh (Nat.le_refl _))
noncomputable def Z5d (ta:TA):TI:=fun σ H R=>ta σ H fun vs H1=>∃ j:Int,vs=[.int j] /\ -(2 ^ 62) <= j /\ j < 2 ^ 62 /\ R (Itr 0 j.toNat) H1
noncomputable def Z5c (ta:TA):TI:=fun σ H R=>ta σ H fun vs H1=>∃ i j:Int,vs=[.int i,.int j] /\ (-(2 ^ 62) <= i /\ i < 2 ^ 62 /\ -(2 ^ 62) <= j /\ j < 2 ^ 62) /\ R (Itr i (j - i).toNat) H1
theorem T6 {a:Expr}{ta:TA}{p pos:Pos}(hg:Gl X "range") (hm:X.mg "range" = none) (ha:PA X [a] ta) (hs:starEach [a] X.env=[(false,eval a X.env)]:=by rfl):PI X tg (.Call (.Name "range" p) [a] [] pos) (Z5d ta):=by
  intro pins s σ H R I h
  refine Call_ (kU I hg hm boot_range (PyProof.Rows.callWith_type1 (thn (ha pos pins s σ H _ I h) fun us s1 ⟨vs,H1,I1,r1,q1⟩=>?_) hs rfl))
  obtain⟨j,e,q1,q2,q⟩:=q1
  subst e
  cases r1 with
  | cons r rr =>
    cases rr
    obtain⟨t,rfl⟩:=r
    exact call_range_1 (yJ I1 (by omega) (by omega) q1 q2 (by simpa using q))
theorem T5 {a b:Expr}{ta:TA}{p pos:Pos}(hg:Gl X "range") (hm:X.mg "range" = none) (ha:PA X [a,b] ta) (hs:starEach [a,b] X.env=[(false,eval a X.env),(false,eval b X.env)]:=by rfl) (hs2:starEach [b] X.env=[(false,eval b X.env)]:=by rfl) :
    PI X tg (.Call (.Name "range" p) [a,b] [] pos) (Z5c ta):=by
  intro pins s σ H R I h
  refine Call_ (kU I hg hm boot_range (PyProof.Rows.callWith_type1 (thn (ha pos pins s σ H _ I h) fun us s1 ⟨vs,H1,I1,r1,q1⟩=>?_) (by rw [hs,hs2]) (by rw [hs2];rfl)))
  obtain⟨i,j,e,⟨q1,q2,q3,q4⟩,q⟩:=q1
  subst e
  cases r1 with
  | cons r rr =>
    cases rr with
    | cons r' rr =>
      cases rr
      obtain⟨t,rfl⟩:=r
      obtain⟨t',rfl⟩:=r'
      exact call_range_2 (yJ I1 q1 q2 q3 q4 q)
noncomputable def Z5y (wi:TI) (g:TG) (tb:TS):TS:=fun D σ H=>wi σ H fun J H1=>∃ W:Nat->Nat->St->Hp->Prop,(∃ m,W 0 m σ H1) /\ ∀ i m σ H,W i m σ H ->
  (J.stop i H /\ D.nx σ H) \/ (J.go i H /\ ∃ N:St->Hp->Prop,(∀ σ' H',N σ' H'->∃ m',m' < m /\ W (i + 1) m' σ' H') /\ ∀ x H',J.yld i H x H'->g x σ H' fun σ2 H2=>tb { D with nx:=N,ct:=N,bk:=D.nx } σ2 H2)
noncomputable def sO (fp:List Addr) (h:Heap):List (Addr × Obj):=fp.filterMap fun b=>(h.get? b).map fun o=>(b,o)
theorem mC {fp:List Addr}{h:Heap}{b:Addr}{o:Obj}(hb:b ∈ fp) (e:h.get? b=some o):(b,o) ∈ sO fp h:=List.mem_filterMap.mpr ⟨b,hb,by rw [e];rfl⟩
theorem U7 {fp:List Addr}{h:Heap}{p:Addr × Obj}(hp:p ∈ sO fp h):p.1 ∈ fp /\ h.get? p.1=some p.2:=by
  obtain⟨b,hb,e⟩:=List.mem_filterMap.mp hp
  cases q:h.get? b with
  | none=>rw [q] at e;cases e
  | some o =>
    rw [q] at e
    have e':(b,o)=p:=Option.some.inj e
    subst e'
    exact⟨hb,q⟩
theorem Inv.pinned {pins:List (Addr × Obj)}{σ:St}{H:Hp}{s:Shared}{fp:List Addr}(I:Inv X pins σ H s) (hf:∀ b ∈ fp,uQ X pins H b) (ho:∀ b ∈ fp,∃ o,s.heap.get? b=some o /\ ∀ v,o.data ≠ .cell v):Inv X (pins ++ sO fp s.heap) σ H s :=
  I.pins_of fun p hp=>(List.mem_append.mp hp).elim (fun z=>I.pin p (List.mem_append_right _ z)) fun z=>by
    obtain⟨hb,e⟩:=U7 z
    obtain⟨f0,f1,f2,_⟩:=hf p.1 hb
    obtain⟨o,e',d⟩:=ho p.1 hb
    rw [e] at e';cases e'
    exact⟨e,f0,f1,f2,d⟩
theorem Inv.unpinned {pins pl:List (Addr × Obj)}{σ:St}{H:Hp}{s:Shared}(I:Inv X (pins ++ pl) σ H s):Inv X pins σ H s:=I.pins_of fun p hp=>I.pin p (List.mem_append_right _ (List.mem_append_left _ hp))
theorem Z3Q {iter:Expr}{body:List Stmt}{wi:TI}{g:TG}{tb:TS}{pos:Pos}(hp:PassesOwn (model X.prog X.w) X.A X.env X.xe) (hc:X.calm=true) (hi:PI X tg iter wi) (hg:PG X tg g) (hb:PSs X body tb)
    (hs:∀ x,foldedSetIterable iter X.env x=pure x:=by intro _;rfl):PS X (.For tg iter body [] pos) (Z5y wi g tb):=by
  intro pins s σ H D I h
  refine wpAny_For (thn (hi pins s σ H _ I h) fun v s1 h1=>thn h1 fun itv s2 h2=>?_) hs
  obtain⟨it,fp,tn,J,H2,e,I2,T,st2,f2,W,⟨m0,w0⟩,turn⟩:=h2
  subst e
  -- what stays true of the iterator's objects through the loop
  have stat:∀ {H':Hp},(∀ b ∈ fp,H' b=none)->∀ b ∈ fp,uQ X pins H' b:=fun hn b hb=>⟨hn b hb,(f2 b hb).2⟩
  refine codeAny_forLoop_any (fun n s'=>∃ i σ' H',Inv X pins σ' H' s' /\ tn i s'.heap /\ (∀ b ∈ fp,H' b=none) /\ W i n σ' H') ?_ m0 ⟨0,σ,H2,I2,st2,fun b hb=>(f2 b hb).1,w0⟩
  rintro n s3 ⟨i,σ3,H3,I3,st3,fr3,w3⟩
  rcases turn i n σ3 H3 w3 with ⟨stop,qn⟩ | ⟨go,N,hN,step⟩
  . refine wpAny_passesOwn hp (thn (T.done X rfl rfl rfl hc i pins s3 σ3 H3 X.xe I3 (stat fr3) st3 stop) fun r s4 ⟨hr,I4⟩=>?_)
    subst hr
    exact wpAny_execs_nil ⟨σ3,H3,I4,qn⟩
  . refine wpAny_passesOwn hp (thn (T.item X rfl rfl rfl hc i pins s3 σ3 H3 X.xe I3 (stat fr3) st3 go) fun r s4 ⟨u,hr,h4⟩=>?_)
    subst hr
    refine wpAny_passesOwn hp (thn h4 fun _ s5 ⟨x,H5,I5,r5,y5,st5,fr5⟩=>?_)
    have I5':=I5.pinned (stat fr5) (T.obj _ _ st5)
    refine wpAny_passesOwn hp (thn (hg _ s5 σ3 H5 x u _ I5' r5 (step x H5 y5)) fun _ s6 ⟨σ6,H6,I6,q6⟩=>?_)
    refine wpAny_passesOwn hp (thn (hb _ s6 σ6 H6 _ I6 q6) fun f s7 q7=>?_)
    have again:∀ {σ7:St}{H7:Hp},Inv X (pins ++ sO fp s5.heap) σ7 H7 s7->N σ7 H7->∃ m,m < n /\ ∃ i σ' H',Inv X pins σ' H' s7 /\ tn i s7.heap /\ (∀ b ∈ fp,H' b=none) /\ W i m σ' H':=fun {σ7 H7} I7 n7=>by
      obtain⟨m',hm,w7⟩:=hN σ7 H7 n7
      refine⟨m',hm,i + 1,σ7,H7,I7.unpinned,T.keep _ _ _ st5 fun b hb o e=>(I7.pin (b,o) (List.mem_append_right _ (List.mem_append_right _ (mC hb e)))).1,fun b hb=>?_,w7⟩
      obtain⟨o,e,d⟩:=T.obj _ _ st5 b hb
      exact (I7.pin (b,o) (List.mem_append_right _ (List.mem_append_right _ (mC hb e)))).2.1
    cases f with
    | next=>obtain⟨σ7,H7,I7,n7⟩:=q7;exact again I7 n7
    | cont=>obtain⟨σ7,H7,I7,n7⟩:=q7;exact again I7 n7
    | brk=>obtain⟨σ7,H7,I7,q7⟩:=q7;exact⟨σ7,H7,I7.unpinned,q7⟩
    | ret v=>obtain⟨x7,σ7,H7,I7,r7,q7⟩:=q7;exact⟨x7,σ7,H7,I7.unpinned,r7,q7⟩
end
noncomputable abbrev R2:=V->V->Hp->VK->Prop
noncomputable def OpR (X:Cx) (f:Value->Value->Sem Value) (r:R2):Prop :=
  ∀ (pins:List (Addr × Obj)) (s:Shared) (σ:St) (H:Hp) (x y:V) (v u:Value) (Q:VK),Inv X pins σ H s->RelV x v->RelV y u->r x y H Q ->
    wpAny (model X.prog X.w) X.A (f v u) (EP X pins σ Q) X.xe s
noncomputable def UnR (X:Cx) (f:Value->Sem Value) (r:V->Hp->VK->Prop):Prop :=
  ∀ (pins:List (Addr × Obj)) (s:Shared) (σ:St) (H:Hp) (x:V) (v:Value) (Q:VK),Inv X pins σ H s->RelV x v->r x H Q ->
    wpAny (model X.prog X.w) X.A (f v) (EP X pins σ Q) X.xe s
noncomputable def CallR (X:Cx) (f:Value) (r:List V->Hp->VK->Prop):Prop :=
  ∀ (pins:List (Addr × Obj)) (s:Shared) (σ:St) (H:Hp) (xs:List V) (us:List Value) (Q:VK),Inv X pins σ H s->Vals xs us->r xs H Q ->
    wpAny (model X.prog X.w) X.A (call f us) (EP X pins σ Q) X.xe s
noncomputable def tOp (r:R2) (ta tb:TE):TE:=fun σ H Q=>ta σ H fun x H1=>tb σ H1 fun y H2=>r x y H2 Q
noncomputable def tUn (r:V->Hp->VK->Prop) (ta:TE):TE:=fun σ H Q=>ta σ H fun x H1=>r x H1 Q
noncomputable def rI (C:Int->Int->Prop) (g:Int->Int->V):R2:=fun x y H Q=>∃ i j,x=.int i /\ y=.int j /\ C i j /\ Q (g i j) H
noncomputable def rI0 (g:Int->Int->V):R2:=fun x y H Q=>∃ i j,x=.int i /\ y=.int j /\ Q (g i j) H
noncomputable def rU (g:Int->V):V->Hp->VK->Prop:=fun x H Q=>∃ i,x=.int i /\ Q (g i) H
section
variable {X:Cx}{a b c:Expr}{ta tb tc:TE}{pos:Pos}
theorem Z4m (ha:PE X a ta) (hb:PE X b tb) {pins:List (Addr × Obj)}{s:Shared}{σ:St}{H:Hp}{R:V->V->Hp->Prop}(I:Inv X pins σ H s)
    (h:ta σ H fun x H1=>tb σ H1 fun y H2=>R x y H2) {Q:Value->Shared->Prop}{f:Value->Value->Sem Value}
    (hf:∀ v u s2 x y H2,Inv X pins σ H2 s2->RelV x v->RelV y u->R x y H2->wpAny (model X.prog X.w) X.A (f v u) Q X.xe s2) :
    wpAny (model X.prog X.w) X.A (eval a X.env) (fun v s₁=>wpAny (model X.prog X.w) X.A (eval b X.env) (fun u s₂=>wpAny (model X.prog X.w) X.A (f v u) Q X.xe s₂) X.xe s₁) X.xe s:=by
  refine thn (ha pins s σ H _ I h) fun v s1 ⟨x,H1,I1,r1,q1⟩=>?_
  refine thn (hb pins s1 σ H1 _ I1 q1) fun u s2 ⟨y,H2,I2,r2,q2⟩=>?_
  exact hf v u s2 x y H2 I2 r1 r2 q2
theorem pe_op {op:Operator}{r:R2}(ho:OpR X (binaryOp op) r) (ha:PE X a ta) (hb:PE X b tb):PE X (.BinOp a op b pos) (tOp r ta tb):=by
  intro pins s σ H Q I h
  exact wpAny_BinOp (Z4m ha hb I h fun v u s2 x y H2 I2 rx ry q=>ho pins s2 σ H2 x y v u Q I2 rx ry q)
theorem pe_un {op:UnaryOp}{r:V->Hp->VK->Prop}(ho:UnR X (unaryOp op) r) (ha:PE X a ta):PE X (.UnaryOp op a pos) (tUn r ta):=by
  intro pins s σ H Q I h
  exact UnaryOp_ (thn (ha pins s σ H _ I h) fun v s1 ⟨x,H1,I1,r1,q1⟩=>ho pins s1 σ H1 x v Q I1 r1 q1)
theorem opI {f:Value->Value->Sem Value}{C:Int->Int->Prop}{g:Int->Int->Int}
    (rule:∀ (i j:Int) (t u:Tok) (s:Shared) (Q:Value->Shared->Prop) (E:Value->Shared->Prop),C i j->Q (.int (g i j) s.toks) { s with toks:=s.toks + 1 }->wpAny (model X.prog X.w) X.A (f (.int i t) (.int j u)) Q E s) :
    OpR X f (rI C fun i j=>.int (g i j)):=by
  intro pins s σ H x y v u Q I rx ry h
  obtain⟨i,j,rfl,rfl,hc,q⟩:=h
  obtain⟨t,rfl⟩:=rx
  obtain⟨t',rfl⟩:=ry
  exact rule i j t t' s _ _ hc ⟨.int (g i j),H,I.tok _,⟨_,rfl⟩,q⟩
theorem Z0N {f:Value->Value->Sem Value}{g:Int->Int->Int}
    (rule:∀ (i j:Int) (t u:Tok) (s:Shared) (Q:Value->Shared->Prop) (E:Value->Shared->Prop),Q (.int (g i j) s.toks) { s with toks:=s.toks + 1 }->wpAny (model X.prog X.w) X.A (f (.int i t) (.int j u)) Q E s) :
    OpR X f (rI0 fun i j=>.int (g i j)):=by
  intro pins s σ H x y v u Q I rx ry h
  obtain⟨i,j,rfl,rfl,q⟩:=h
  obtain⟨t,rfl⟩:=rx
  obtain⟨t',rfl⟩:=ry
  exact rule i j t t' s _ _ ⟨.int (g i j),H,I.tok _,⟨_,rfl⟩,q⟩
theorem Z42 {f:Value->Value->Sem Value}{g:Int->Int->Bool}
    (rule:∀ (i j:Int) (t u:Tok) (s:Shared) (Q:Value->Shared->Prop) (E:Value->Shared->Prop),Q (.bool (g i j)) s->wpAny (model X.prog X.w) X.A (f (.int i t) (.int j u)) Q E s) :
    OpR X f (rI0 fun i j=>.bl (g i j)):=by
  intro pins s σ H x y v u Q I rx ry h
  obtain⟨i,j,rfl,rfl,q⟩:=h
  obtain⟨t,rfl⟩:=rx
  obtain⟨t',rfl⟩:=ry
  exact rule i j t t' s _ _ ⟨.bl (g i j),H,I,rfl,q⟩
noncomputable def Z3b (i j:Int):Prop:=0 <= j /\ j <= 1000000 /\ i.natAbs < 2 ^ 64
noncomputable def CMul (i j:Int):Prop:=(-(2 ^ 64) < i /\ i < 2 ^ 64) \/ (-(2 ^ 64) < j /\ j < 2 ^ 64)
theorem CMul.ok {i j:Int}(h:CMul i j):IntMulOk i j:=by
  rcases h with ⟨h1,h2⟩ | ⟨h1,h2⟩
  . exact .of_left (intBits_le_64 h1 h2)
  . exact .of_right (intBits_le_64 h1 h2)
theorem gT:OpR X (binaryOp .Add) (rI0 fun i j=>.int (i + j)):=Z0N fun _ _ _ _ _ _ _ q=>add_int q
theorem dL:OpR X (binaryOp .Sub) (rI0 fun i j=>.int (i - j)):=Z0N fun _ _ _ _ _ _ _ q=>sub_int q
theorem cU:OpR X (binaryOp .Mod) (rI (fun _ j=>0 < j) fun i j=>.int (i % j)):=opI fun i j _ _ _ _ _ hc q=>by
  have h1:(0:Int) < j:=hc
  exact mod_int' (by omega) (by rw [Int.fmod_eq_emod_of_nonneg i (by omega)];exact q)
theorem Z0K:OpR X (binaryOp .Pow) (rI Z3b fun i j=>.int (i ^ j.toNat)):=opI fun _ _ _ _ _ _ _ hc q=>pow_int_small hc.1 hc.2.1 hc.2.2 q
theorem sQ:OpR X (binaryOp .BitAnd) (rI0 fun i j=>.int (Builtin.bitAnd i j)):=Z0N fun _ _ _ _ _ _ _ q=>and_int q
theorem oA:OpR X (binaryOp .BitOr) (rI0 fun i j=>.int (Builtin.bitOr i j)):=Z0N fun _ _ _ _ _ _ _ q=>or_int q
theorem C9:OpR X (binaryOp .BitXor) (rI0 fun i j=>.int (Builtin.bitXor i j)):=Z0N fun _ _ _ _ _ _ _ q=>xor_int q
theorem unI {f:Value->Sem Value}{g:Int->Int}
    (rule:∀ (i:Int) (t:Tok) (s:Shared) (Q:Value->Shared->Prop) (E:Value->Shared->Prop),Q (.int (g i) s.toks) { s with toks:=s.toks + 1 }->wpAny (model X.prog X.w) X.A (f (.int i t)) Q E s) :
    UnR X f (rU fun i=>.int (g i)):=by
  intro pins s σ H x v Q I rx h
  obtain⟨i,rfl,q⟩:=h
  obtain⟨t,rfl⟩:=rx
  exact rule i t s _ _ ⟨.int (g i),H,I.tok _,⟨_,rfl⟩,q⟩
theorem Z00:UnR X (unaryOp .USub) (rU fun i=>.int (-i)):=unI fun _ _ _ _ _ q=>neg_int q
end
section
variable {X:Cx}{a b c:Expr}{ta tb tc:TE}{pos:Pos}
theorem Z1p {pins:List (Addr × Obj)}{σ:St}{H:Hp}{s:Shared}{Q:VK}{k k':Bool}(I:Inv X pins σ H s) (q:Q (.bl k) H) (e:k=k'):EP X pins σ Q (.bool k') s:=by
  subst e
  exact⟨.bl k,H,I,rfl,q⟩
theorem Z53:OpR X (compareOp .Lt) (rI0 fun i j=>.bl (decide (i < j))):=Z42 fun _ _ _ _ _ _ _ q=>lt_int q
theorem Z3k:OpR X (compareOp .Gt) (rI0 fun i j=>.bl (decide (j < i))):=Z42 fun _ _ _ _ _ _ _ q=>gt_int q
theorem Z54:OpR X (compareOp .GtE) (rI0 fun i j=>.bl (decide (j <= i))):=Z42 fun _ _ _ _ _ _ _ q=>ge_int q
theorem U0:OpR X (compareOp .In) (fun x y H Q=>∃ i j,x=.str i /\ y=.str j /\ Q (.bl (!(Builtin.Str.occurrences j i 0 j.length 1).isEmpty)) H):=by
  intro pins s σ H x y v u Q I rx ry h
  obtain⟨i,j,rfl,rfl,q⟩:=h
  obtain⟨t,rfl⟩:=rx
  obtain⟨t',rfl⟩:=ry
  exact in_str (Z1p I q rfl)
theorem Z2v:OpR X (compareOp .IsNot) (fun x y H Q=>y=.non /\ Q (.bl (!decide (x=.non))) H):=by
  intro pins s σ H x y v u Q I rx ry h
  obtain⟨rfl,q⟩:=h
  cases ry
  refine isnot_none_gen (Z1p I q ?_)
  cases x <;> first
    | (cases rx;rfl)
    | (obtain⟨t,rfl⟩:=rx;rfl)
theorem OpR.or {f:Value->Value->Sem Value}{r r':R2}(h:OpR X f r) (h':OpR X f r'):OpR X f (fun x y H Q=>r x y H Q \/ r' x y H Q):=by
  intro pins s σ H x y v u Q I rx ry q
  rcases q with q | q
  . exact h pins s σ H x y v u Q I rx ry q
  . exact h' pins s σ H x y v u Q I rx ry q
theorem lZ (b:Expr) {op:CmpOp}(h:op ≠ .In:=by decide) (h2:op ≠ .NotIn:=by decide):behindInMarks op b=false:=by
  have e1:(op == CmpOp.In)=false:=by cases op <;> first | rfl | exact absurd rfl h
  have e2:(op == CmpOp.NotIn)=false:=by cases op <;> first | rfl | exact absurd rfl h2
  cases b <;> simp [behindInMarks,e1,e2]
theorem wP {op:CmpOp}{r:R2}(ho:OpR X (compareOp op) r) (ha:PE X a ta) (hb:PE X b tb) (hm:behindInMarks op b=false):PE X (.Compare a [op] [b] pos) (tOp r ta tb):=by
  intro pins s σ H Q I h
  exact wpAny_Compare1 (Z4m ha hb I h fun v u s2 x y H2 I2 rx ry q=>ho pins s2 σ H2 x y v u Q I2 rx ry q) hm
noncomputable def Z4w (t:TE):TT:=fun σ H Q=>t σ H fun x H'=>∃ k,x=.bl k /\ Q k H'
theorem Z2k {op:CmpOp}{r:R2}(ho:OpR X (compareOp op) r) (ha:PE X a ta) (hb:PE X b tb) (hm:behindInMarks op b=false):PT X (.Compare a [op] [b] pos) (Z4w (tOp r ta tb)):=by
  intro pins s σ H Q I h
  refine wpAny_isTrue_Compare1 (thn (ha pins s σ H _ I h) fun v s1 ⟨x,H1,I1,r1,q1⟩=>thn (hb pins s1 σ H1 _ I1 q1) fun u s2 ⟨y,H2,I2,r2,q2⟩ =>
    thn (ho pins s2 σ H2 x y v u _ I2 r1 r2 q2) fun c s3 ⟨z,H3,I3,r3,k,e,q3⟩=>?_) hm
  subst e
  cases r3
  exact wpAny_truthy_bool ⟨H3,I3,q3⟩
theorem pY:(sizeLine:Nat) < 2 ^ 63:=by rw [sizeLine_eq];decide
theorem oT {x:V}{us:List Value}(r:Vals [x] us):∃ u,us=[u] /\ RelV x u:=by
  cases r with
  | cons r1 r2=>cases r2;exact⟨_,rfl,r1⟩
theorem Z3e {x y:V}{us:List Value}(r:Vals [x,y] us):∃ u w',us=[u,w'] /\ RelV x u /\ RelV y w':=by
  cases r with
  | cons r1 r2 =>
    cases r2 with
    | cons r3 r4=>cases r4;exact⟨_,_,rfl,r1,r3⟩
theorem X7 (hc:X.calm=true):CallR X (.builtin "max") (fun xs H Q=>∃ i j,xs=[.int i,.int j] /\ Q (.int (if j > i then j else i)) H):=by
  intro pins s σ H xs us Q I r h
  obtain⟨i,j,rfl,q⟩:=h
  obtain⟨u,w',rfl,⟨t,rfl⟩,⟨t',rfl⟩⟩:=Z3e r
  refine max_two_ints (I.ok.hd hc) fun h' tk k=>⟨_,H,I.kept k,?_,q⟩
  by_cases hj:j > i
  . rw [if_pos hj,if_pos hj];exact⟨_,rfl⟩
  . rw [if_neg hj,if_neg hj];exact⟨_,rfl⟩
theorem X6 (hc:X.calm=true):CallR X (.builtin "min") (fun xs H Q=>∃ i j,xs=[.int i,.int j] /\ Q (.int (if j < i then j else i)) H):=by
  intro pins s σ H xs us Q I r h
  obtain⟨i,j,rfl,q⟩:=h
  obtain⟨u,w',rfl,⟨t,rfl⟩,⟨t',rfl⟩⟩:=Z3e r
  refine min_two_ints (I.ok.hd hc) fun h' tk k=>⟨_,H,I.kept k,?_,q⟩
  by_cases hj:j < i
  . rw [if_pos hj,if_pos hj];exact⟨_,rfl⟩
  . rw [if_neg hj,if_neg hj];exact⟨_,rfl⟩
theorem X9:CallR X (.type "int") (fun xs H Q=>(∃ i,xs=[.int i] /\ Q (.int i) H) \/ ∃ k,xs=[.bl k] /\ Q (.int (if k then 1 else 0)) H):=by
  intro pins s σ H xs us Q I r h
  rcases h with ⟨i,rfl,q⟩ | ⟨k,rfl,q⟩
  . obtain⟨u,rfl,t,rfl⟩:=oT r
    exact call_int_int ⟨.int i,H,I,⟨_,rfl⟩,q⟩
  . obtain⟨u,rfl,r1⟩:=oT r
    cases r1
    exact call_int_bool ⟨.int (if k then 1 else 0),H,I.tok _,⟨_,rfl⟩,q⟩
end
structure ObjM (h:Heap) (x dx C:Addr) (mA:Str->Option Value):Prop where
  obj:h.get? x=some (PySem.W.instObj C dx)
  ns:h.Ns1 dx mA
  ne:dx ≠ x
theorem V1 {h:Heap}{dx:Addr}{mA:Str->Option Value}(n:h.Ns1 dx mA):∃ od,h.get? dx=some od /\ ∀ name,PySem.W.lookIn name od=some (mA name):=by
  obtain⟨o,es,ep,ho,hd,hk,_,hm⟩:=n
  refine⟨o,ho,fun name=>?_⟩
  have e:=hm name
  unfold nsFind findBy at e
  rw [<- Array.find?_toList] at e
  unfold PySem.W.lookIn
  rw [hd]
  dsimp only
  split
  . rename_i y q
    rw [q] at e
    exact congrArg some e
  . rename_i q
    rw [q] at e
    have a:es.toList.any (·.refKey)=false:=by
      rw [List.any_eq_false]
      intro y hy
      obtain⟨z,t,hkey⟩:=hk y (Array.mem_toList_iff.mp hy)
      simp [DictEntry.refKey,hkey]
    have a':¬ es.toList.any (·.refKey)=true:=by rw [a];exact Bool.false_ne_true
    rw [if_neg a']
    exact congrArg some e
theorem ObjM.look {h:Heap}{x dx C:Addr}{mA:Str->Option Value}(I:ObjM h x dx C mA):∃ od,PySem.W.InstAt h x (PySem.W.instObj C dx) C (some od) /\ ∀ name,PySem.W.lookIn name od=some (mA name) :=
  let ⟨od,ho,hl⟩:=V1 I.ns
  ⟨od,⟨I.obj,rfl,rfl,ho⟩,hl⟩
section
variable {prog:Program}{w:World}{A:Around}{E:Value->Shared->Prop}{s:Shared}{K:Frag}{x dx C f:Addr}{mA:Str->Option Value}{name:Str}{v:Value}
theorem Z2U {expr:Bool}{Q:Value->Shared->Prop}(X:K.In s.heap) (I:ObjM s.heap x dx C mA) (hg:PySem.W.plainGet K C name=true) (hh:PySem.W.hasDictIn K C=true)
    (ha:PySem.W.findIn K (.ref C) name=some none) (hv:mA name=some v) (hv':PySem.W.handedIn v=true) (h:Q v { s with toks:=s.toks + 1 }) :
    wpAny (model prog w) A (getAttr (.ref x) name expr) Q E s:=by
  obtain⟨od,J,hl⟩:=I.look
  exact PySem.W.get_value X J (PySem.W.plainGet_of hg).1 (PySem.W.findObj_own hh ha rfl (by rw [hl,hv])) hv' h
theorem Z20 {ns:List Str}{Q:Unit->Shared->Prop}(X:K.In s.heap) (I:ObjM s.heap x dx C mA)
    (hs:PySem.W.findIn K (.ref C) "__setattr__" = some (some (.builtin "object.__setattr__"))) (hp:PySem.W.plainOver K C=true) (ht:PySem.W.takerIn K C name=some none) (hh:PySem.W.hasDictIn K C=true)
    (hw:PySem.Within mA ns) (hsz:ns.length <= sizeLine)
    (h:∀ h',ObjM h' x dx C (fun y=>if y=name then some v else mA y)->Heap.SameBut dx s.heap h'->Q () { s with heap:=h',toks:=s.toks + 2 }) :
    wpAny (model prog w) A (setAttr (.ref x) name v) Q E s:=by
  obtain⟨od,J,hl⟩:=I.look
  refine PySem.W.set_plain X J hs (PySem.W.osa_open (s:={ s with toks:=s.toks + 1 }) (r:=none) X J hp ht fun b=>?_)
  obtain⟨cd,hc,hd'⟩:=PySem.W.any_some hh
  have hx:s.heap.get? x=some ⟨.ref C,some dx,.plain,#[]⟩:=I.obj
  refine wpAny_bind (wpAny_pure (wpAny_bind (wpAny_bind (wpAny_loadPart hx (wpAny_bind (PySem.W.Looks.here (s:={ s with toks:=s.toks + 1 }) (PySem.W.looks_clsIn X hc) ?_))))))
  rw [hd']
  refine wpAny_pure (a:=some dx) (wpAny_bind (wpAny_pure (wpAny_bind ?_)))
  refine wpAny_nsSet1 (s:={ s with toks:=s.toks + 1 }) I.ns fun h' hn2 hs2=>?_
  obtain⟨oD,esD,epD,hoD,hdD,hcD⟩:=hn2.count (PySem.Within.cons name v hw)
  refine wpAny_bind (wpAny_lookBehind hoD (by rw [hdD];exact pastItsLine_dict (Nat.le_trans hcD (by rw [List.length_cons];omega))) ?_)
  exact wpAny_pure (h _ ⟨(hs2.2 _ (Ne.symm I.ne)).trans I.obj,hn2,I.ne⟩ hs2)
theorem Z0V {R:Result->Shared->Prop}{vs:List Value}{kw:List (Str × Value)}(X:K.In s.heap) (hm:PySem.W.makesIn K C=true)
    (hi:PySem.W.findIn K (.ref C) "__init__" = some (some (.ref f))) (hf:PySem.W.typeIn K (.ref f)=some (.type "function"))
    (h:codeAny (model prog w) (A.under (.builtin "type.__call__" ⟨.ref C :: vs,kw⟩)) (.call (.ref f) ⟨.ref (s.heap.objs.size + 1) :: vs,kw⟩) (PySem.W.InitBack (s.heap.objs.size + 1) R)
      { s with heap:=(s.heap.push PySem.W.emptyDict).push (PySem.W.instObj C s.heap.objs.size) }) :
    codeAny (model prog w) A (.call (.ref C) ⟨vs,kw⟩) R s:=by
  obtain⟨hh,g,d,t,os⟩:=s
  exact PySem.W.make_core (PySem.W.makes_of X hm) (PySem.W.looks_findIn X hi) (fun self=>PySem.W.bind_fn X self hf) (.inl rfl) h
end
noncomputable def kR (f:Str) (v:V):List (Str × V)->List (Str × V)
  | []=>[(f,v)]
  | (g,x) :: r=>if g=f then (g,v) :: r else (g,x) :: kR f v r
theorem qS (f g:Str) (v:V):∀ fs:List (Str × V),(kR f v fs).lookup g=if g=f then some v else fs.lookup g
  | []=>by
    show List.lookup g [(f,v)]=_
    by_cases h:g=f
    . have hb:(g == f)=true:=beq_iff_eq.mpr h
      simp only [List.lookup,hb,if_pos h]
    . have hb:(g == f)=false:=beq_eq_false_iff_ne.mpr h
      simp only [List.lookup,hb,if_neg h]
  | (k,x) :: r=>by
    have ih:=qS f g v r
    rw [show kR f v ((k,x) :: r)=(if k=f then (k,v) :: r else (k,x) :: kR f v r) from rfl]
    by_cases hk:k=f
    . rw [if_pos hk]
      by_cases h:g=k
      . have hb:(g == k)=true:=beq_iff_eq.mpr h
        simp only [List.lookup,hb,if_pos (h.trans hk)]
      . have hb:(g == k)=false:=beq_eq_false_iff_ne.mpr h
        simp only [List.lookup,hb,if_neg (fun e:g=f=>h (e.trans hk.symm))]
    . rw [if_neg hk]
      by_cases h:g=k
      . have hb:(g == k)=true:=beq_iff_eq.mpr h
        simp only [List.lookup,hb,if_neg (fun e:g=f=>hk (h.symm.trans e))]
      . have hb:(g == k)=false:=beq_eq_false_iff_ne.mpr h
        simp only [List.lookup,hb]
        exact ih
theorem qB (f:Str) (v:V):∀ fs:List (Str × V),f ∈ (kR f v fs).map (·.1) /\ ∀ g,g ∈ fs.map (·.1)->g ∈ (kR f v fs).map (·.1)
  | []=>⟨by simp [kR],fun g h=>by simp at h⟩
  | (k,x) :: r=>by
    obtain⟨i1,i2⟩:=qB f v r
    rw [show kR f v ((k,x) :: r)=(if k=f then (k,v) :: r else (k,x) :: kR f v r) from rfl]
    by_cases hk:k=f
    . rw [if_pos hk]
      subst hk
      exact⟨by simp,fun g h=>by simpa using h⟩
    . rw [if_neg hk]
      refine⟨?_,fun g h=>?_⟩
      . rw [List.map_cons]
        exact List.mem_cons_of_mem _ i1
      . rw [List.map_cons] at h ⊢
        rcases List.mem_cons.mp h with e | e
        . exact List.mem_cons.mpr (.inl e)
        . exact List.mem_cons_of_mem _ (i2 g e)
theorem qU (f:Str) (v:V):∀ fs:List (Str × V),(kR f v fs).length <= fs.length + 1
  | []=>by simp [kR]
  | (k,x) :: r=>by
    have ih:=qU f v r
    rw [show kR f v ((k,x) :: r)=(if k=f then (k,v) :: r else (k,x) :: kR f v r) from rfl]
    by_cases hk:k=f
    . rw [if_pos hk,List.length_cons,List.length_cons];omega
    . rw [if_neg hk,List.length_cons,List.length_cons];omega
theorem RelO.some_of {v:V}{o:Option Value}(r:RelO (some v) o):∃ u,o=some u /\ RelV v u:=by
  cases o with
  | none=>exact (show False from r).elim
  | some u=>exact⟨u,rfl,r⟩
theorem W1 {v:V}{u:Value}(r:RelV v u):PySem.W.handedIn u=true:=by
  cases v with
  | non=>cases (show u=Value.none from r);rfl
  | bl b=>cases (show u=Value.bool b from r);rfl
  | int i=>obtain⟨t,e⟩:=(show ∃ t,u=Value.int i t from r);cases e;rfl
  | str x=>obtain⟨t,e⟩:=(show ∃ t,u=Value.str x t from r);cases e;rfl
  | byt b=>obtain⟨t,e⟩:=(show ∃ t,u=Value.bytes b t from r);cases e;rfl
  | flt b=>obtain⟨t,e⟩:=(show ∃ t,u=Value.float b t from r);cases e;rfl
  | ref a=>cases (show u=Value.ref a from r);rfl
  | ty n=>cases (show u=Value.type n from r);rfl
section
variable {P:Program}{w:World}{H H':Hp}{h h':Heap}{a C dx:Addr}{fs fs':List (Str × V)}
theorem N5 (hok:HOk P w H h) (e:H a=some (.ins C dx fs)):∃ mA,ObjM h a dx C mA /\ (∀ f,RelO (fs.lookup f) (mA f)) /\ PySem.Within mA (fs.map (·.1)) /\ fs.length <= 1000 /\ H dx=some (.own a):=by
  obtain⟨d,z,ne,ob,mA,n,r,q⟩:=(show ObjOk P w H h a (.ins C dx fs) from hok a _ e)
  exact⟨mA,⟨ob,n,ne⟩,r,q,z,d⟩
end
structure Cls (K:Frag) (C:Addr):Prop where
  pg:PySem.W.plainGet K C Str.empty=true
  hd:PySem.W.hasDictIn K C=true
  po:PySem.W.plainOver K C=true
  sa:PySem.W.findIn K (.ref C) "__setattr__" = some (some (.builtin "object.__setattr__"))
theorem Cls.get {K:Frag}{C:Addr}(c:Cls K C) (f:Str):PySem.W.plainGet K C f=true:=c.pg
noncomputable def NoAttr (K:Frag) (C:Addr) (f:Str):Prop:=PySem.W.findIn K (.ref C) f=some none
theorem NoAttr.taker {K:Frag}{C:Addr}{f:Str}(n:NoAttr K C f):PySem.W.takerIn K C f=some none:=by
  unfold PySem.W.takerIn
  rw [show PySem.W.findIn K (.ref C) f=some none from n]
  rfl
structure Con (K:Frag) (C:Addr) (f:Str) (v:V) (u:Value):Prop where
  at_:PySem.W.findIn K (.ref C) f=some (some u)
  rel:RelV v u
  get:PySem.W.specialIn K u "__get__" = some none
  cp:PySem.W.copiedNames.contains f=false
structure Z5U (K:Frag) (C:Addr) (m:Str) (f:Addr):Prop where
  at_:PySem.W.findIn K (.ref C) m=some (some (.ref f))
  fn:PySem.W.isFn K (.ref f)=true
  kp:keepIn K (.ref f)=true
section
variable {X:Cx}{pins:List (Addr × Obj)}{σ:St}{H:Hp}{s:Shared}{a C dx:Addr}{fs:List (Str × V)}{f:Str}{v:V}{A:Around}{E:Value->Shared->Prop}
theorem J1 {b:Bool}{Q:Value->Shared->Prop}(I:Inv X pins σ H s) (e:H a=some (.ins C dx fs)) (c:Cls X.K C) (n:NoAttr X.K C f) (l:fs.lookup f=some v)
    (h:∀ u s',Inv X pins σ H s'->RelV v u->Q u s'):wpAny (model X.prog X.w) A (getAttr (.ref a) f b) Q E s:=by
  obtain⟨mA,O,r,_,_,_⟩:=N5 I.hok e
  obtain⟨u,hu,ru⟩:=RelO.some_of (v:=v) (o:=mA f) (by rw [<- l];exact r f)
  exact Z2U I.kIn O (c.get f) c.hd n hu (W1 ru) (h u _ (I.tok _) ru)
theorem B9 {y:V}{u:Value}{Q:Unit->Shared->Prop}(I:Inv X pins σ H s) (e:H a=some (.ins C dx fs)) (c:Cls X.K C) (n:NoAttr X.K C f) (hl:fs.length < 1000) (ry:RelV y u)
    (h:∀ s',Inv X pins σ (upd H a (.ins C dx (kR f y fs))) s'->Q () s'):wpAny (model X.prog X.w) A (setAttr (.ref a) f u) Q E s:=by
  obtain⟨mA,O,r,wi,_,ho⟩:=N5 I.hok e
  have hz:(fs.map (·.1)).length <= sizeLine:=by rw [List.length_map,sizeLine_eq];omega
  refine Z20 I.kIn O c.sa c.po n.taker c.hd wi hz fun h' O' sb=>h _ ?_
  have hd:∃ o,h'.get? dx=some o:=let ⟨o,_,_,e',_⟩:=O'.ns;⟨o,e'⟩
  refine I.write (x:=a) (e:=dx) (by rw [e];exact True.intro) (.inr ho) (fun b q hb z=>(sb.2 b hb).trans z) hd ?_
  refine⟨by rw [aX O.ne];exact ho,?_,O.ne,O'.obj,_,O'.ns,fun g=>?_,fun g hg=>?_⟩
  . have:=qU f y fs;omega
  . show RelO ((kR f y fs).lookup g) (if g=f then some u else mA g)
    rw [qS]
    by_cases q:g=f
    . rw [if_pos q,if_pos q];exact ry
    . rw [if_neg q,if_neg q];exact r g
  . by_cases q:g=f
    . rw [q];exact (qB f y fs).1
    . refine (qB f y fs).2 g (wi g fun z=>hg ?_)
      show (if g=f then some u else mA g)=none
      rw [if_neg q];exact z
theorem Inv.made (I:Inv X pins σ H s):Inv X pins σ (upd (upd H s.heap.objs.size (.own (s.heap.objs.size + 1))) (s.heap.objs.size + 1) (.ins C s.heap.objs.size []))
    { s with heap:=(s.heap.push PySem.W.emptyDict).push (PySem.W.instObj C s.heap.objs.size) }:=by
  have e1:(s.heap.push PySem.W.emptyDict).get? s.heap.objs.size=some PySem.W.emptyDict:=Heap.get?_push_size s.heap rfl
  have e2:((s.heap.push PySem.W.emptyDict).push (PySem.W.instObj C s.heap.objs.size)).get? (s.heap.objs.size + 1)=some (PySem.W.instObj C s.heap.objs.size):=by
    have:=Heap.get?_push_size (s.heap.push PySem.W.emptyDict) (o:=PySem.W.instObj C s.heap.objs.size) rfl
    rwa [Heap.size_push] at this
  have e3:(s.heap.push PySem.W.emptyDict).Ns s.heap.objs.size (fun _=>none):=⟨PySem.W.emptyDict,#[],_,e1,rfl,(fun e he=>absurd he (by simp)),fun _=>rfl⟩
  have I1:=I.laid (a:=s.heap.objs.size) (o:=.own (s.heap.objs.size + 1)) (h':=s.heap.push PySem.W.emptyDict) (t':=s.toks) (fun b u q=>Heap.get?_push_of_some _ q) (Nat.le_refl _) ⟨_,e1⟩
  refine I1.laid (a:=s.heap.objs.size + 1) (o:=.ins C s.heap.objs.size []) (t':=s.toks) (fun b u q=>Heap.get?_push_of_some _ q) (Nat.le_of_eq (Heap.size_push _ _)) ?_
  have ne:s.heap.objs.size ≠ s.heap.objs.size + 1:=Nat.ne_of_lt (Nat.lt_succ_self _)
  refine⟨by rw [aX ne,aY],Nat.zero_le _,ne,e2,fun _=>none,(Heap.Ns1.of_empty e3).at fun o q=>Heap.get?_push_of_some _ q,fun _=>True.intro,fun y hy=>absurd rfl hy⟩
theorem Z36 {prog:Program}{w:World}{env:Env}{e:Expr}{f:Str}{pos:Pos}{s:Shared}{Q:Value->Shared->Prop}(hb:attributeBase e f env (eval e env)=eval e env)
    (h:wpAny (model prog w) A (eval e env) (fun o s₁=>wpAny (model prog w) A (getAttr o f true) Q E s₁) E s):wpAny (model prog w) A (eval (.Attribute e f pos) env) Q E s :=
  Attribute_any_ h (by rw [arm_eval_Attribute,hb])
end
noncomputable def Z5z (K:Frag) (ta:TE) (f:Str):TE:=fun σ H Q=>ta σ H fun x H1=>∃ a C dx fs v,x=.ref a /\ H1 a=some (.ins C dx fs) /\ Cls K C /\ NoAttr K C f /\ fs.lookup f=some v /\ Q v H1
noncomputable def Z24 (K:Frag) (ta tv:TE) (f:Str):TS:=fun D σ H=>tv σ H fun y H1=>ta σ H1 fun x H2=>∃ a C dx fs,x=.ref a /\ H2 a=some (.ins C dx fs) /\ Cls K C /\ NoAttr K C f /\ fs.length < 1000 /\
  D.nx σ (upd H2 a (.ins C dx (kR f y fs)))
section
variable {X:Cx}{o e value:Expr}{f:Str}{pos pos' tpos:Pos}{ta tv:TE}
theorem Z3X (he:PE X e ta) (hb:attributeBase e f X.env (eval e X.env)=eval e X.env):PE X (.Attribute e f pos) (Z5z X.K ta f):=by
  intro pins s σ H Q I h
  refine Z36 hb (thn (he pins s σ H _ I h) fun u s1 ⟨x,H1,I1,rx,a,C,dx,fs,v,ex,ea,c,n,l,q⟩=>?_)
  subst ex
  obtain rfl:u=Value.ref a:=rx
  exact J1 I1 ea c n l fun u' s2 I2 ru=>⟨v,H1,I2,ru,q⟩
theorem C7 (ha:PE X o ta) (hv:PE X value tv) (hs:swapsWith value (some (.Attribute o f pos')) pos.line X.env=pure false):PS X (.Assign [.Attribute o f pos'] value pos) (Z24 X.K ta tv f):=by
  intro pins s σ H D I h
  refine plainObj_wpAny_Assign_Attribute (thn (hv pins s σ H _ I h) fun u s1 ⟨y,H1,I1,ry,q⟩=>thn (ha pins s1 σ H1 _ I1 q) fun ov s2 ⟨x,H2,I2,rx,a,C,dx,fs,ex,ea,c,n,l,q2⟩=>?_) hs
  subst ex
  obtain rfl:ov=Value.ref a:=rx
  exact B9 I2 ea c n l ry fun s3 I3=>⟨σ,_,I3,q2⟩
end
section
variable {X:Cx}{pins:List (Addr × Obj)}{σ:St}{H:Hp}{s:Shared}{A:Around}{E:Value->Shared->Prop}{Q:Value->Shared->Prop}{c:Value}{b:Bool}
inductive tX (K:Frag) (H:Hp):V->Value->Prop where
  | non:tX K H .non (.type "NoneType")
  | bl (x:Bool):tX K H (.bl x) (.type "bool")
  | int (i:Int):tX K H (.int i) (.type "int")
  | str (x:Str):tX K H (.str x) (.type "str")
  | flt (x:UInt64):tX K H (.flt x) (.type "float")
  | lst {a:Addr}{xs:List V}(e:H a=some (.lst xs)):tX K H (.ref a) (.type "list")
  | frz {a:Addr}{o:Obj}{xs:List V}(e:H a=some (.frz o (.lst xs))):tX K H (.ref a) (.type "list")
  | tup {a:Addr}{xs:List V}(e:H a=some (.tup xs)):tX K H (.ref a) (.type "tuple")
  | dK {a:Addr}{kvs:List (Key × V)}(e:H a=some (.dK kvs)):tX K H (.ref a) (.type "dict")
  | dT {a:Addr}{kvs:List (List Key × V)}(e:H a=some (.dT kvs)):tX K H (.ref a) (.type "dict")
  | ins {a C dx:Addr}{fs:List (Str × V)}(e:H a=some (.ins C dx fs)) (cl:Cls K C) (ha:PySem.W.findIn K (.ref C) "__class__" = some (some (.builtin "object.__class__")))
      (hn:PySem.W.specialIn K (.builtin "object.__class__") "__get__" = some (some (.builtin "getset_descriptor.__get__"))) (htk:PySem.W.takesIn K (.builtin "object.__class__")=some true)
      (hm:PySem.W.mroIn K C (.type "object")=some true):tX K H (.ref a) (.ref C)
end
structure Room (k:Nat) (A:Around):Prop where
  hd:A.handled=none
  dp:A.depth + 3 * k + 5 < recursionLimit
  un:A.units + 16 * k + 200 < cLine
theorem Room.mono {j k:Nat}{A:Around}(r:Room k A) (h:j <= k):Room j A:=⟨r.hd,by have:=r.dp;omega,by have:=r.un;omega⟩
theorem Room.deeper {k:Nat}{A:Around}(r:Room (k + 1) A) (env:Env):Room k (A.deeper env) :=
  ⟨r.hd,by have:=r.dp;show A.depth + 1 + 3 * k + 5 < _;omega,by have:=r.un;show A.units + 3 + 16 * k + 200 < _;omega⟩
theorem Room.in1 {k:Nat}{A:Around}(r:Room (k + 1) A):Room k A.in1 :=
  ⟨r.hd,by have:=r.dp;show A.depth + 3 * k + 5 < _;omega,by have:=r.un;show A.units + 1 + 16 * k + 200 < _;omega⟩
theorem E4 {A:Around}{C:Addr}{us:List Value}{kw:List (Str × Value)}:(A.under (.builtin "type.__call__" ⟨.ref C :: us,kw⟩)).depth=A.depth + 1:=by
  first | rfl | simp [Around.under,Code.weight,Code.isCreation,Code.isGuard,Code.isCaller,Code.frames,Code.isFrame,guardIds]
theorem E3 {A:Around}{C:Addr}{us:List Value}{kw:List (Str × Value)}:(A.under (.builtin "type.__call__" ⟨.ref C :: us,kw⟩)).units=A.units + 1:=by
  first | rfl | simp [Around.under,Code.cUnits,Code.frames,Code.isFrame]
theorem Room.make {k:Nat}{A:Around}(r:Room (k + 1) A) (C:Addr) (us:List Value) (kw:List (Str × Value)):Room k (A.under (.builtin "type.__call__" ⟨.ref C :: us,kw⟩)) :=
  ⟨r.hd,by have:=r.dp;rw [E4];omega,by have:=r.un;rw [E3];omega⟩
theorem Room.depth {k:Nat}{A:Around}(r:Room k A):A.depth < recursionLimit:=by have:=r.dp;omega
theorem Room.units {k:Nat}{A:Around}(r:Room k A):A.units + 64 < cLine:=by have:=r.un;omega
noncomputable def Q4:TA:=fun _ H Q=>Q [] H
noncomputable def uW (ta:TE) (tr:TA):TA:=fun σ H Q=>ta σ H fun x H1=>tr σ H1 fun xs H2=>Q (x :: xs) H2
section
variable {X:Cx}{e:Expr}{es:List Expr}{te:TE}{t:TA}{pos:Pos}
theorem pa_nil:PA X [] Q4:=fun _ _ _ _ H Q I h=>Calls.spliced_nil ⟨[],H,I,.nil,h⟩
theorem pa_cons (ha:PE X e te) (hr:PA X es t) (hs:starEach (e :: es) X.env=(false,eval e X.env) :: starEach es X.env:=by rfl):PA X (e :: es) (uW te t):=by
  intro pos pins s σ H Q I h
  rw [hs]
  show wpAny _ _ (spliced ((false,eval e X.env) :: backTo pos (starEach es X.env))) _ _ s
  refine Calls.spliced_cons (thn (ha pins s σ H _ I h) fun u s1 ⟨x,H1,I1,r1,q1⟩=>?_)
  exact thn (hr pos pins s1 σ H1 _ I1 q1) fun us s2 ⟨xs,H2,I2,r2,q2⟩=>⟨x :: xs,H2,I2,.cons r1 r2,q2⟩
noncomputable def Z5v (t:TA):TE:=fun σ H Q=>t σ H fun xs H1=>xs.length <= sizeLine /\ ∀ p,H1 p=none->Q (.ref p) (upd H1 p (.tup xs))
noncomputable def Z4A (t:TA):TE:=fun σ H Q=>t σ H fun xs H1=>xs.length <= sizeLine /\ ∀ p,H1 p=none->Q (.ref p) (upd H1 p (.lst xs))
theorem pe_tup {x1} (h:PA X es t):PE X (.Tuple es x1 pos) (Z5v t):=by
  intro pins s σ H Q I hq
  refine wpAny_Tuple_spliced (thn (h pos pins s σ H _ I hq) fun us s1 ⟨xs,H1,I1,r,z,q⟩=>⟨by rw [<- r.length];exact z,?_⟩)
  have hf:H1 s1.heap.objs.size=none:=I1.hok.fresh (Nat.le_refl _)
  refine⟨.ref s1.heap.objs.size,upd H1 s1.heap.objs.size (.tup xs),I1.laid (t':=s1.toks) (fun b u e=>Heap.get?_push_of_some _ e) (Nat.le_refl _) ?_,rfl,q _ hf⟩
  exact⟨z,us,r,⟨_,Heap.get?_push_size _ rfl,rfl,_,rfl⟩⟩
theorem pe_lst (h:PA X es t):PE X (.List es pos) (Z4A t):=by
  intro pins s σ H Q I hq
  refine wpAny_List_spliced (thn (h pos pins s σ H _ I hq) fun us s1 ⟨xs,H1,I1,r,z,q⟩=>⟨by rw [<- r.length];exact z,?_⟩)
  have hf:H1 s1.heap.objs.size=none:=I1.hok.fresh (Nat.le_refl _)
  refine⟨.ref s1.heap.objs.size,upd H1 s1.heap.objs.size (.lst xs),I1.laid (t':=s1.toks) (fun b u e=>Heap.get?_push_of_some _ e) (Nat.le_refl _) ?_,rfl,q _ hf⟩
  exact⟨z,us,0,r,Heap.get?_push_size _ rfl⟩
end
noncomputable abbrev Sp:=List V->Hp->VK->XK->Prop
noncomputable abbrev CXT:=List Env->Hp->Shared->XK->Value->Shared->Prop
structure Env0 (P:Program) (w:World) (K:Frag) (mg:Str->Option Value) (base:Heap) (A:Around) (outer:List Env) (s:Shared) (H:Hp):Prop where
  frames:A.frames=some outer
  mod:Mod K mg base
  bs:∀ b o,base.get? b=some o->s.heap.get? b=some o /\ H b=none
  bsz:base.objs.size <= s.heap.objs.size
  funs:s.heap.FunFrames base outer
  frf:∀ b ∈ frs outer,H b=none
  hok:HOk P w H s.heap
  bare:AllBare s.gens
noncomputable def CE (outer:List Env) (P:Program) (w:World) (H:Hp) (s:Shared) (Q:VK) (u:Value) (s':Shared):Prop :=
  ∃ v H',s'.os=s.os /\ AllBare s'.gens /\ Un (frs outer) [] H H' s.heap s'.heap /\ HOk P w H' s'.heap /\ RelV v u /\ Q v H'
noncomputable def CR (CX:CXT) (outer:List Env) (P:Program) (w:World) (H:Hp) (s:Shared) (Q:VK) (E:XK) (r:Result) (s':Shared):Prop :=
  match r with
  | .ok (.ret u)=>CE outer P w H s Q u s'
  | .ok _=>False
  | .error e=>CX outer H s E e s'
structure FnOk (P:Program) (w:World) (K:Frag) (mg:Str->Option Value) (base:Heap) (CX:CXT) (k:Nat) (f:Addr) (fd:FuncData) (ps:List Str) (sp:Sp):Prop where
  len:∀ vs H Q E,sp vs H Q E->vs.length=ps.length
  run:∀ (A:Around) (outer:List Env) (s:Shared) (H:Hp) (args:Args) (us:List Value) (vs:List V) (Q:VK) (E:XK),Room k A->Env0 P w K mg base A outer s H->BindsTo s fd args (ps.zip us)->Vals vs us->sp vs H Q E ->
    codeAny (model P w) A (.call (.ref f) args) (CR CX outer P w H s Q E) s
theorem FnOk.mono {P:Program}{w:World}{K:Frag}{mg:Str->Option Value}{base:Heap}{CX:CXT}{j k:Nat}{f:Addr}{fd:FuncData}{ps:List Str}{sp:Sp}(F:FnOk P w K mg base CX j f fd ps sp) (h:j <= k) :
    FnOk P w K mg base CX k f fd ps sp:=⟨F.len,fun A outer s H args us vs Q E hr=>F.run A outer s H args us vs Q E (hr.mono h)⟩
theorem FnOk.imp {P:Program}{w:World}{K:Frag}{mg:Str->Option Value}{base:Heap}{CX:CXT}{k:Nat}{f:Addr}{fd:FuncData}{ps:List Str}{sp sp':Sp}(F:FnOk P w K mg base CX k f fd ps sp)
    (h:∀ vs H Q E,sp' vs H Q E->sp vs H Q E):FnOk P w K mg base CX k f fd ps sp' :=
  ⟨fun vs H Q E q=>F.len vs H Q E (h _ _ _ _ q),fun A outer s H args us vs Q E hr he hb hv hs=>F.run A outer s H args us vs Q E hr he hb hv (h _ _ _ _ hs)⟩
theorem Env0.make {P:Program}{w:World}{K:Frag}{mg:Str->Option Value}{base:Heap}{A:Around}{outer:List Env}{s:Shared}{H:Hp}(e:Env0 P w K mg base A outer s H) (C:Addr) (us:List Value) (kw:List (Str × Value)) :
    Env0 P w K mg base (A.under (.builtin "type.__call__" ⟨.ref C :: us,kw⟩)) outer s H:=⟨by first | exact e.frames | (simpa [Around.under,Code.envs,Code.isFrame,pushEnvs] using e.frames),e.mod,e.bs,e.bsz,e.funs,e.frf,e.hok,e.bare⟩
theorem Env0.in1 {P:Program}{w:World}{K:Frag}{mg:Str->Option Value}{base:Heap}{A:Around}{outer:List Env}{s:Shared}{H:Hp}(e:Env0 P w K mg base A outer s H) :
    Env0 P w K mg base A.in1 outer s H:=⟨e.frames,e.mod,e.bs,e.bsz,e.funs,e.frf,e.hok,e.bare⟩
section
variable {X:Cx}{pins:List (Addr × Obj)}{σ:St}{H:Hp}{s s':Shared}
theorem Inv.env0 (I:Inv X pins σ H s):Env0 X.prog X.w X.K X.mg X.base X.A X.stack s H :=
  ⟨I.ok.frames,I.ok.mod,I.bs,Nat.le_trans I.ok.bsz I.sz,I.stack,I.stkFree,I.hok,I.bare⟩
theorem Inv.after {Q:VK}{u:Value}(I:Inv X pins σ H s) (h:CE X.stack X.prog X.w H s Q u s'):EP X pins σ Q u s':=by
  obtain⟨v,H',os,bare,un,hok,r,q⟩:=h
  obtain⟨hh,g,d,t,os'⟩:=s'
  obtain rfl:os'=s.os:=os
  exact⟨v,H',I.call (h':=hh) (g':=g) (d':=d) (t':=t) (ch:=[]) un hok bare (fun b z=>absurd z (by simp)),r,q⟩
end
noncomputable def Z4D (sp:Sp) (dvs:List V) (E:XK) (t:TA):TE:=fun σ H Q=>t σ H fun vs H1=>sp (vs ++ dvs) H1 Q E
noncomputable def Z4z (C:Addr) (sp:Sp) (dvs:List V) (E:XK) (t:TA):TE:=fun σ H Q=>t σ H fun vs H1=>∀ x dx,H1 x=none->H1 dx=none->dx ≠ x ->
  sp (.ref x :: (vs ++ dvs)) (upd (upd H1 dx (.own x)) x (.ins C dx [])) (fun v H2=>v=.non /\ Q (.ref x) H2) E
noncomputable def Binds (K:Frag) (fd:FuncData) (ps:List Str) (ds:List Value):Prop :=
  ∀ (s:Shared) (us:List Value),K.In s.heap->(us ++ ds).length=ps.length->BindsTo s fd ⟨us,[]⟩ (ps.zip (us ++ ds))
theorem Binds.all {K:Frag}{fd:FuncData}{ps:List Str}(h:∀ us:List Value,us.length=ps.length->bindArgs fd ⟨us,[]⟩=pure (ps.zip us)):Binds K fd ps []:=fun s us _ hl=>by
  rw [List.append_nil] at hl ⊢
  exact .of_eq (h us hl)
noncomputable def tY (CX:CXT) (X:Cx) (E:XK):Prop:=∀ (pins:List (Addr × Obj)) (σ:St) (H:Hp) (s:Shared) (e:Value) (s':Shared),Inv X pins σ H s->CX X.stack H s E e s'->X.xe e s'
section
variable {X:Cx}{CX:CXT}{k:Nat}{f C:Addr}{fd:FuncData}{ps:List Str}{sp:Sp}{dvs:List V}{ds:List Value}{E:XK}{x m:Str}{p pos apos:Pos}{e o:Expr}{es:List Expr}{ta:TE}{t:TA}
theorem Z3E {pins:List (Addr × Obj)}{σ:St}{H:Hp}{s:Shared}{Q:VK}{us:List Value}{vs:List V}(F:FnOk X.prog X.w X.K X.mg X.base CX k f fd ps sp) (hr:Room k X.A) (hb:Binds X.K fd ps ds) (hd:Vals dvs ds) (hx:tY CX X E)
    (I:Inv X pins σ H s) (r:Vals vs us) (h:sp (vs ++ dvs) H Q E):wpAny (model X.prog X.w) X.A (call (.ref f) us) (EP X pins σ Q) X.xe s:=by
  have r2:Vals (vs ++ dvs) (us ++ ds):=r.append hd
  have hl:(us ++ ds).length=ps.length:=by rw [<- r2.length];exact F.len _ _ _ _ h
  refine wpAny_call (codeAny_mono (F.run X.A X.stack s H ⟨us,[]⟩ (us ++ ds) (vs ++ dvs) Q E hr I.env0 (hb s us I.kIn hl) r2 h) fun r s' hq=>?_)
  cases r with
  | error e=>exact hx pins σ H s e s' I hq
  | ok fl =>
    cases fl with
    | ret u=>exact I.after hq
    | next=>exact False.elim hq
    | brk=>exact False.elim hq
    | cont=>exact False.elim hq
theorem pe_call (F:FnOk X.prog X.w X.K X.mg X.base CX k f fd ps sp) (hr:Room k X.A) (hg:Gl X x) (hm:X.mg x=some (.ref f)) (hk:keepIn X.K (.ref f)=true) (hb:Binds X.K fd ps ds) (hd:Vals dvs ds) (hx:tY CX X E)
    (ha:PA X (e :: es) t) (hdb:(x == ("__debug__" : Str))=false:=by decide) (he:starEach (e :: es) X.env=(false,eval e X.env) :: starEach es X.env:=by rfl) (hpl:(backTo pos (starEach es X.env)).any (·.1)=false:=by rfl) :
    PE X (.Call (.Name x p) (e :: es) [] pos) (Z4D sp dvs E t):=by
  intro pins s σ H Q I h
  refine wpAny_Call_Name_kw (N1 I hg hm ?_ hdb)
  refine PySem.W.callWith_K (h₀:=X.base) I.ok.mod.kin hk (thn (ha pos pins s σ H _ I h) fun us s1 ⟨vs,H1,I1,r,q⟩=>⟨I1.kIn,?_⟩) he hpl
  exact Z3E F hr hb hd hx I1 r q
structure Mk (K:Frag) (C f:Addr):Prop where
  makes:PySem.W.makesIn K C=true
  init:PySem.W.findIn K (.ref C) "__init__" = some (some (.ref f))
  fn:PySem.W.isFn K (.ref f)=true
  kp:keepIn K (.ref C)=true
theorem Z07 {pins:List (Addr × Obj)}{σ:St}{H:Hp}{s:Shared}{Q:VK}{us:List Value}{vs:List V}(M:Mk X.K C f) (F:FnOk X.prog X.w X.K X.mg X.base CX k f fd ps sp) (hr:Room (k + 1) X.A) (hb:Binds X.K fd ps ds) (hd:Vals dvs ds)
    (hx:tY CX X E) (I:Inv X pins σ H s) (r:Vals vs us)
    (h:∀ x dx,H x=none->H dx=none->dx ≠ x->sp (.ref x :: (vs ++ dvs)) (upd (upd H dx (.own x)) x (.ins C dx [])) (fun v H2=>v=.non /\ Q (.ref x) H2) E) :
    wpAny (model X.prog X.w) X.A (call (.ref C) us) (EP X pins σ Q) X.xe s:=by
  have hq:=h (s.heap.objs.size + 1) s.heap.objs.size (I.hok.fresh (Nat.le_succ _)) (I.hok.fresh (Nat.le_refl _)) (Nat.ne_of_lt (Nat.lt_succ_self _))
  have I2:=Inv.made (C:=C) I
  have r2:Vals (V.ref (s.heap.objs.size + 1) :: (vs ++ dvs)) (Value.ref (s.heap.objs.size + 1) :: (us ++ ds)):=.cons rfl (r.append hd)
  have hl:(Value.ref (s.heap.objs.size + 1) :: us ++ ds).length=ps.length:=by
    have e:=r2.length
    rw [F.len _ _ _ _ hq] at e
    exact e.symm
  refine wpAny_call (Z0V (f:=f) I.kIn M.makes M.init (beq_iff_eq.mp M.fn) (codeAny_mono (F.run _ X.stack _ _ ⟨Value.ref (s.heap.objs.size + 1) :: us,[]⟩ (Value.ref (s.heap.objs.size + 1) :: (us ++ ds)) _ _ E (hr.make C us [])
    (I2.env0.make C us []) (hb _ (Value.ref (s.heap.objs.size + 1) :: us) I2.kIn hl) r2 hq) fun r s' hq'=>?_))
  cases r with
  | error e=>exact hx pins σ _ _ e s' I2 hq'
  | ok fl =>
    cases fl with
    | ret u =>
      obtain⟨v,H',I3,rv,ev,q3⟩:=I2.after hq'
      subst ev
      exact⟨rv,⟨V.ref (s.heap.objs.size + 1),H',I3,rfl,q3⟩⟩
    | next=>exact False.elim hq'
    | brk=>exact False.elim hq'
    | cont=>exact False.elim hq'
theorem pe_make (M:Mk X.K C f) (F:FnOk X.prog X.w X.K X.mg X.base CX k f fd ps sp) (hr:Room (k + 1) X.A) (hg:Gl X x) (hm:X.mg x=some (.ref C)) (hb:Binds X.K fd ps ds) (hd:Vals dvs ds) (hx:tY CX X E)
    (ha:PA X (e :: es) t) (hdb:(x == ("__debug__" : Str))=false:=by decide) (he:starEach (e :: es) X.env=(false,eval e X.env) :: starEach es X.env:=by rfl) (hpl:(backTo pos (starEach es X.env)).any (·.1)=false:=by rfl) :
    PE X (.Call (.Name x p) (e :: es) [] pos) (Z4z C sp dvs E t):=by
  intro pins s σ H Q I h
  refine wpAny_Call_Name_kw (N1 I hg hm ?_ hdb)
  refine PySem.W.callWith_K (h₀:=X.base) I.ok.mod.kin M.kp (thn (ha pos pins s σ H _ I h) fun us s1 ⟨vs,H1,I1,r,q⟩=>⟨I1.kIn,?_⟩) he hpl
  exact Z07 M F hr hb hd hx I1 r q
end
section
variable {X:Cx}{CX:CXT}{k:Nat}{f C:Addr}{fd:FuncData}{ps ks:List Str}{sp:Sp}{E:XK}{x m:Str}{p pos apos kpos:Pos}{e o:Expr}{es:List Expr}{kws:List Keyword}{te ta:TE}{t tk:TA}{nm:Option Str}
structure Z5S (K:Frag) (fd:FuncData) (ps ks:List Str) (g:List Value->List Value->List Value) (gV:List V->List V->List V):Prop where
  to:∀ (s:Shared) (us ws:List Value),K.In s.heap->(g us ws).length=ps.length->BindsTo s fd ⟨us,ks.zip ws⟩ (ps.zip (g us ws))
  rel:∀ {vs:List V}{us:List Value}{zs:List V}{ws:List Value},Vals vs us->Vals zs ws->Vals (gV vs zs) (g us ws)
variable {g:List Value->List Value->List Value}{gV:List V->List V->List V}
end
structure aS (N P:List Str) (sc:Scope):Prop where
  kind:sc.kind=.function
  co:sc.isCoroutine=false
  gen:sc.isGenerator=false
  nd:N.Nodup
  pre:N.take P.length=P
  par:∀ x ∈ P,sc.names.lookup x=some .local \/ sc.names.lookup x=some .cell
  nofree:∀ y ∈ sc.names,y.2 ≠ .free
theorem vY {kindOf:Str->Option NameKind}{x:Str}:∀ {binds:List (Str × Value)}{m:Str->Option Value},(∀ v,(x,v) ∉ binds)->bindL kindOf binds m x=m x
  | [],_,_=>rfl
  | (n,v) :: r,m,h=>by
    unfold bindL
    rw [vY fun w hw=>h w (List.mem_cons_of_mem _ hw)]
    split
    . have:x ≠ n:=by rintro rfl;exact h v List.mem_cons_self
      simp [this]
    . rfl
theorem wA {kindOf:Str->Option NameKind}{x:Str}:∀ {binds:List (Str × Value)}{m:Str->Option Value},(∀ v,(x,v) ∉ binds)->bindC kindOf binds m x=m x
  | [],_,_=>rfl
  | (n,v) :: r,m,h=>by
    unfold bindC
    rw [wA fun w hw=>h w (List.mem_cons_of_mem _ hw)]
    split
    . rfl
    . have:x ≠ n:=by rintro rfl;exact h v List.mem_cons_self
      simp [this]
theorem vZ {kindOf:Str->Option NameKind}{x:Str}{v:Value}:∀ {P:List Str}{vs:List Value}{i:Nat}{m:Str->Option Value},P.Nodup->P[i]? = some x->vs[i]? = some v->kindOf x=some .local ->
    bindL kindOf (P.zip vs) m x=some v
  | [],_,_,_,_,h,_,_=>by simp at h
  | _ :: _,[],_,_,_,_,h,_=>by simp at h
  | p :: P,w :: vs,0,m,nd,h1,h2,hk=>by
    simp at h1 h2;subst h1;subst h2
    show bindL kindOf ((p,w) :: P.zip vs) m p=_
    unfold bindL
    rw [vY fun v hv=>(List.nodup_cons.mp nd).1 (List.of_mem_zip hv).1,if_pos hk]
    simp
  | p :: P,w :: vs,i + 1,m,nd,h1,h2,hk=>by
    show bindL kindOf ((p,w) :: P.zip vs) m x=_
    unfold bindL
    exact vZ (i:=i) (List.nodup_cons.mp nd).2 (by simpa using h1) (by simpa using h2) hk
theorem wB {kindOf:Str->Option NameKind}{x:Str}{v:Value}:∀ {P:List Str}{vs:List Value}{i:Nat}{m:Str->Option Value},P.Nodup->P[i]? = some x->vs[i]? = some v->kindOf x ≠ some .local ->
    bindC kindOf (P.zip vs) m x=some v
  | [],_,_,_,_,h,_,_=>by simp at h
  | _ :: _,[],_,_,_,_,h,_=>by simp at h
  | p :: P,w :: vs,0,m,nd,h1,h2,hk=>by
    simp at h1 h2;subst h1;subst h2
    show bindC kindOf ((p,w) :: P.zip vs) m p=_
    unfold bindC
    rw [wA fun v hv=>(List.nodup_cons.mp nd).1 (List.of_mem_zip hv).1,if_neg hk]
    simp
  | p :: P,w :: vs,i + 1,m,nd,h1,h2,hk=>by
    show bindC kindOf ((p,w) :: P.zip vs) m x=_
    unfold bindC
    exact wB (i:=i) (List.nodup_cons.mp nd).2 (by simpa using h1) (by simpa using h2) hk
noncomputable def start (N:List Str) (vs:List V):St:=vs.map some ++ List.replicate (N.length - vs.length) none
noncomputable def zT (CX:CXT) (P:Program) (w:World) (K:Frag) (mg:Str->Option Value) (base:Heap) (N:List Str) (qual:Str) (scope:Scope) (f:Addr) (cd:Value) (A:Around) (outer:List Env) (s:Shared) (H:Hp) (E:XK):Cx where
  prog:=P
  w:=w
  K:=K
  mg:=mg
  base:=base
  A:=A.deeper (envOfC qual scope s.heap.objs.size f cd)
  N:=N
  s₀:=s
  H₀:=H
  env:=envOfC qual scope s.heap.objs.size f cd
  outer:=outer
  stack:=envOfC qual scope s.heap.objs.size f cd :: outer
  ex:=[]
  calm:=true
  fn:=fun _=>true
  pn:=[]
  xe:=fun e s'=>wpAny (model P w) (A.deeper (envOfC qual scope s.heap.objs.size f cd)) (leaving (envOfC qual scope s.heap.objs.size f cd) e) (fun _ s''=>CX outer H s E e s'') (fun e' s''=>CX outer H s E e' s'') s'
theorem zX {sc:Scope}{n:Nat}{x:Str}(h:sc.names.lookup x=some .cell):∃ c,(cellsFrom n sc.names []).lookup x=some c:=by
  have q:=PySem.W.cellsFrom_some sc.names n [] (.inl h)
  exact Option.isSome_iff_exists.mp q
theorem V9 {CX:CXT}{P:Program}{w:World}{K:Frag}{mg:Str->Option Value}{base:Heap}{N ps:List Str}{qual:Str}{scope:Scope}{f:Addr}{cd:Value}{A:Around}{outer:List Env}{s s1:Shared}{H:Hp}{E:XK}{us:List Value}{vs:List V}
    (S:aS N ps scope) (hd:A.handled=none) (e0:Env0 P w K mg base A outer s H) (hl:vs.length=ps.length) (r:Vals vs us)
    (x:InCallC s s.heap.objs.size (bindL (envOfC qual scope s.heap.objs.size f cd).kindOf (ps.zip us) fun _=>none) (cellsFrom (s.heap.objs.size + 1) scope.names []) (bindC (envOfC qual scope s.heap.objs.size f cd).kindOf (ps.zip us) fun _=>none) s1) :
    Inv (zT CX P w K mg base N qual scope f cd A outer s H E) [] (start N vs) H s1:=by
  have hpl:ps.length <= N.length:=by have:=congrArg List.length S.pre;rw [List.length_take] at this;omega
  obtain⟨h1,tk,rfl,hk⟩:=x.done
  have noA:∀ b:Addr,b ∉ (zT CX P w K mg base N qual scope f cd A outer s H E).ex:=fun b z=>absurd (show b ∈ ([]:List Addr) from z) (by simp)
  refine⟨⟨e0.mod,S.kind,rfl,rfl,Nat.le_refl _,fun y z c h1 h2=>?_,fun y hy=>?_,fun y c _ h=>?_,fun _=>hd,Around.frames_deeper e0.frames,.inr ⟨rfl,rfl⟩,fun b z=>absurd z (noA b),e0.bs,e0.bsz,fun b _ _=>noA b,fun b z=>absurd z (noA b),e0.funs,e0.frf⟩,
    rfl,e0.bare,Un.kept hk,⟨_,x.toInCall.ns,fun i y v h1 h2 h3=>?_⟩,fun y c h=>⟨_,x.cell y c h⟩,e0.hok.fresh (Nat.le_refl _),fun y c h=>?_,fun p hp=>absurd (show p ∈ ([]:List (Addr × Obj)) from hp) (by simp),e0.hok.kept hk,?_⟩
  . exact name_of_addr x.apart (PySem.mem_of_lookup h1) (PySem.mem_of_lookup h2)
  . have hy:scope.names.lookup y=some .cell \/ scope.names.lookup y=some .free:=hy
    rcases hy with hy | hy
    . exact zX hy
    . exact absurd rfl (S.nofree _ (PySem.mem_of_lookup hy))
  . exact Nat.le_of_lt (x.above y c (PySem.mem_of_lookup h))
  . have hi:i < vs.length:=by
      unfold start at h2
      by_cases hi:i < vs.length
      . exact hi
      . rw [List.getElem?_append_right (by simpa using hi)] at h2
        rw [List.getElem?_replicate] at h2
        split at h2 <;> cases h2
    have ha:vs[i]? = some v:=by
      unfold start at h2
      rw [List.getElem?_append_left (by simpa using hi),List.getElem?_map] at h2
      cases e:vs[i]? with
      | none=>rw [e] at h2;cases h2
      | some a=>rw [e] at h2;cases h2;rfl
    obtain⟨u,hu,rv⟩:=r.get ha
    have hp:ps[i]? = some y:=by
      rw [<- S.pre,List.getElem?_take_of_lt (by omega)];exact h1
    have ndP:ps.Nodup:=by rw [<- S.pre];exact S.nd.sublist (List.take_sublist _ _)
    refine⟨u,rv,?_⟩
    rcases S.par y (List.mem_of_getElem? hp) with k | k
    . exact .inl ⟨k,vZ ndP hp hu k⟩
    . obtain⟨c,e⟩:=zX (n:=s.heap.objs.size + 1) k
      refine .inr ⟨.inl k,c,e,?_⟩
      have q:=x.cell y c e
      rw [wB ndP hp hu (by show scope.names.lookup y ≠ _;rw [k];decide)] at q
      exact q
  . exact e0.hok.fresh (Nat.le_of_lt (x.above y c (PySem.mem_of_lookup h)))
  . unfold start
    show _=N.length
    rw [List.length_append,List.length_map,List.length_replicate]
    omega
theorem Z1n {CX:CXT}{P:Program}{w:World}{K:Frag}{mg:Str->Option Value}{base:Heap}{k:Nat}{f:Addr}{name qual:Str}{params:Arguments}{body:List Stmt}{scope:Scope}{dV kV doc pm cdv ct oc:Value}{an od:Option Addr}
    {osl:Array (Option Value)}{N ps:List Str}{sp:Sp}(lk:K.lookup f=some ⟨oc,od,.func (fnOf name qual params body scope dV kV doc pm an cdv ct),osl⟩) (hcd:codeIn K cdv qual=true) (S:aS N ps scope)
    (len:∀ vs H Q E,sp vs H Q E->vs.length=ps.length)
    (hbody:∀ (A:Around) (outer:List Env) (s:Shared) (H:Hp) (vs:List V) (Q:VK) (E:XK),Room k (A.deeper (envOfC qual scope s.heap.objs.size f cdv))->sp vs H Q E ->
      ∃ t,PSs (zT CX P w K mg base N qual scope f cdv A outer s H E) body t /\ t { nx:=fun _ H'=>Q .non H',rt:=Q } (start N vs) H) :
    FnOk P w K mg base CX (k + 1) f (fnOf name qual params body scope dV kV doc pm an cdv ct) ps sp:=by
  refine⟨len,fun A outer s H args us vs Q E hr e0 hb r hsp=>?_⟩
  have hl:=len _ _ _ _ hsp
  have KX:K.In s.heap:=e0.mod.kin.keeps fun b o e=>(e0.bs b o e).1
  have lim:s.heap.NoLimit:=e0.mod.nolimit.keeps fun b o e=>(e0.bs b o e).1
  have hkind:∀ y ∈ ps.zip us,scope.names.lookup y.1=some .local \/ (scope.names.lookup y.1=some .cell /\ ((cellsFrom (s.heap.objs.size + 1) scope.names []).lookup y.1).isSome=true):=fun⟨n,v⟩ hy=>by
    rcases S.par n (List.of_mem_zip hy).1 with q | q
    . exact .inl q
    . exact .inr ⟨q,PySem.W.cellsFrom_some _ _ _ (.inl q)⟩
  refine codeAny_call_function hr.depth (KX _ _ lk) rfl S.co S.gen rfl (PySem.W.codeRec_of KX hcd) (hb _ _ _ _ ?_)
  refine wpAny_newFunctionEnv_cells S.kind hkind fun env he s1 x=>?_
  subst he
  refine⟨lim.keeps x.toInCall.keep,codeAny_func ?_⟩
  obtain⟨t,ht,hq⟩:=hbody A outer s H vs Q E (hr.deeper _) hsp
  have I:Inv (zT CX P w K mg base N qual scope f cdv A outer s H E) [] (start N vs) H s1:=V9 S hr.hd e0 hl r x
  refine wpAny_mono (ht [] s1 (start N vs) H _ I hq) (fun fl s' hs=>?_) fun e s' hs=>hs
  have fin:∀ {σ':St}{H':Hp}{v:V}{u:Value},Inv (zT CX P w K mg base N qual scope f cdv A outer s H E) [] σ' H' s'->RelV v u->Q v H'->CE outer P w H s Q u s' :=
    fun {σ' H' v u} J rv q=>⟨v,H',J.os,J.bare,J.base,J.hok,rv,q⟩
  cases fl with
  | ret u =>
    obtain⟨v,σ',H',J,rv,q⟩:=hs
    exact fin J rv q
  | next =>
    obtain⟨σ',H',J,q⟩:=hs
    exact fin (v:=V.non) (u:=Value.none) J rfl q
  | brk =>
    obtain⟨_,_,_,q⟩:=hs
    exact False.elim q
  | cont =>
    obtain⟨_,_,_,q⟩:=hs
    exact False.elim q
section
variable {X:Cx}{x:Str}{p pos:Pos}{e:Expr}{es:List Expr}{t:TA}{id T:String}{r:List V->Hp->VK->Prop}
noncomputable def tCB (r:List V->Hp->VK->Prop) (t:TA):TE:=fun σ H Q=>t σ H fun vs H1=>r vs H1 Q
theorem pe_callB (hc:CallR X (.builtin id) r) (hg:Gl X x) (hm:X.mg x=none) (hv:bootBuiltins x=some (.builtin id)) (ha:PA X (e :: es) t) (hn:x ≠ "__name__":=by decide) (hdb:(x == ("__debug__" : Str))=false:=by decide)
    (he:starEach (e :: es) X.env=(false,eval e X.env) :: starEach es X.env:=by rfl) (hpl:(backTo pos (starEach es X.env)).any (·.1)=false:=by rfl):PE X (.Call (.Name x p) (e :: es) [] pos) (tCB r t):=by
  intro pins s σ H Q I h
  refine wpAny_Call_Name_kw (kU I hg hm hv ?_ hn hdb)
  exact PyProof.Rows.callWith_builtin1 (thn (ha pos pins s σ H _ I h) fun us s1 ⟨vs,H1,I1,r1,q1⟩=>hc pins s1 σ H1 vs us Q I1 r1 q1) he hpl
theorem pe_callTy (hc:CallR X (.type T) r) (hg:Gl X x) (hm:X.mg x=none) (hv:bootBuiltins x=some (.type T)) (ha:PA X (e :: es) t) (hn:x ≠ "__name__":=by decide) (hdb:(x == ("__debug__" : Str))=false:=by decide)
    (he:starEach (e :: es) X.env=(false,eval e X.env) :: starEach es X.env:=by rfl) (hpl:(backTo pos (starEach es X.env)).any (·.1)=false:=by rfl):PE X (.Call (.Name x p) (e :: es) [] pos) (tCB r t):=by
  intro pins s σ H Q I h
  refine wpAny_Call_Name_kw (kU I hg hm hv ?_ hn hdb)
  exact PyProof.Rows.callWith_type1 (thn (ha pos pins s σ H _ I h) fun us s1 ⟨vs,H1,I1,r1,q1⟩=>hc pins s1 σ H1 vs us Q I1 r1 q1) he hpl
end
end L2
namespace HT
open PySem PyProof.Rows
section
open PySem.SeqAt
open PySem.AutoSeq1 (wpAny_loadPart')
open PySem.MeetsSeq PySem.MeetsSeq2 PySem.MeetsSeq3
end
section
variable {prog:Program}{w:World}{A:Around}{E:Value->Shared->Prop}{s:Shared}
noncomputable def sIx (n d:Nat):Option Int->Nat
  | none=>d
  | some v=>if v < 0 then (v + (n:Int)).toNat else min v.toNat n
theorem sIx_none (n d:Nat):sIx n d none=d:=rfl
theorem sIx_nat (n d k:Nat):sIx n d (some (k:Int))=min k n:=by
  show (if (k:Int) < 0 then ((k:Int) + (n:Int)).toNat else min (k:Int).toNat n)=min k n
  rw [if_neg (by omega),Int.toNat_natCast]
theorem Z3D (n d:Nat) (hd:d <= n) (o:Option Int):sIx n d o <= n:=by
  cases o with
  | none=>exact hd
  | some v =>
    show (if v < 0 then (v + (n:Int)).toNat else min v.toNat n) <= n
    by_cases hv:v < 0
    . rw [if_pos hv];omega
    . rw [if_neg hv];exact Nat.min_le_right _ _
theorem O8 (v:Int) (n d:Nat):(if v < 0 then max (v + (n:Int)) 0 else min v (n:Int))=((sIx n d (some v):Nat):Int):=by
  show (if v < 0 then max (v + (n:Int)) 0 else min v (n:Int))=(((if v < 0 then (v + (n:Int)).toNat else min v.toNat n):Nat):Int)
  by_cases hv:v < 0
  . simp only [if_pos hv];omega
  . simp only [if_neg hv];omega
theorem K4 (lo hi:Option Int) (n:Nat):Builtin.Slice.sliceAdjust lo hi 1 (n:Int)=(((sIx n 0 lo:Nat):Int),((sIx n n hi:Nat):Int)):=by
  have h1:¬ ((1:Int) < 0):=by omega
  unfold Builtin.Slice.sliceAdjust
  simp only [h1,if_false]
  refine Prod.ext ?_ ?_
  . cases lo with
    | none=>rfl
    | some v=>exact O8 v n 0
  . cases hi with
    | none=>rfl
    | some v=>exact O8 v n n
theorem C8 (i j:Nat):Builtin.Slice.slicePlaces (i:Int) (j:Int) 1=j - i:=by
  unfold Builtin.Slice.slicePlaces
  have h1:(1:Int) > 0:=by omega
  simp only [h1,if_true,Int.ediv_one]
  split <;> omega
theorem sC {v:Value}{o:Option Int}{Q:Option Int->Shared->Prop}(p:IsPart v o) (h:Q o s):wpAny (model prog w) A (Builtin.Slice.slicePartIndex v) Q E s:=by
  cases p with
  | none=>exact slicePart_none h
  | int i t=>exact slicePart_int h
theorem lB {sl:Addr}{vl vu:Value}{lo hi:Option Int}{n:Nat}{Q:Int × Int × Nat->Shared->Prop}(hs:s.heap.IsSliceOf sl vl vu .none) (pl:IsPart vl lo) (pu:IsPart vu hi)
    (h:Q (((sIx n 0 lo:Nat):Int),1,sIx n n hi - sIx n 0 lo) s):wpAny (model prog w) A (Builtin.Slice.sliceApplied (.ref sl) (pure (n:Int))) Q E s:=by
  obtain⟨os,hos,hcs,hds⟩:=id hs
  unfold Builtin.Slice.sliceApplied Builtin.Slice.sliceFields
  refine wpAny_bind (wpAny_bind (wpAny_field hos hds (x:=vl) rfl (wpAny_bind (wpAny_field hos hds (x:=vu) rfl (wpAny_bind (wpAny_field hos hds (x:=.none) rfl (wpAny_pure ?_)))))))
  refine wpAny_bind (slicePart_none ?_)
  show wpAny _ _ (if ((1:Int) == 0)=true then _ else _) _ _ s
  rw [if_neg (by decide)]
  refine wpAny_bind (sC pl (wpAny_bind (sC pu (wpAny_bind (wpAny_pure ?_)))))
  show wpAny _ _ (match Builtin.Slice.sliceAdjust lo hi 1 (n:Int) with | (lo,hi)=>pure (lo,(1:Int),Builtin.Slice.slicePlaces lo hi 1)) _ _ s
  rw [K4 lo hi n]
  show wpAny _ _ (pure (((sIx n 0 lo:Nat):Int),(1:Int),Builtin.Slice.slicePlaces ((sIx n 0 lo:Nat):Int) ((sIx n n hi:Nat):Int) 1)) _ _ s
  rw [C8]
  exact wpAny_pure h
theorem Z0B (xs:Array Value) (i k:Nat):((List.range k).filterMap fun (m:Nat)=>xs[((i:Int) + (m:Int) * 1).toNat]?).toArray=((xs.toList.drop i).take k).toArray:=by
  have e:(fun (m:Nat)=>xs[((i:Int) + (m:Int) * 1).toNat]?)=fun m=>xs[i + m]?:=by
    funext m
    have:((i:Int) + (m:Int) * 1).toNat=i + m:=by omega
    rw [this]
  rw [e]
  have:=pick_run xs i k
  rw [List.filterMap_map] at this
  have e2:((fun x=>xs[x]?) ∘ fun x=>i + x)=fun m=>xs[i + m]?:=rfl
  rw [e2] at this
  rw [this]
theorem getItem_tuple_cut {t sl:Addr}{items:Array Value}{vl vu:Value}{lo hi:Option Int}{Q:Value->Shared->Prop}(ht:IsTup s.heap t items) (hs:s.heap.IsSliceOf sl vl vu .none) (pl:IsPart vl lo) (pu:IsPart vu hi)
    (hw:¬ (sIx items.size 0 lo=0 /\ sIx items.size items.size hi=items.size))
    (h:Q (.ref s.heap.objs.size) { s with heap:=s.heap.push { cls:=.type "tuple",data:=.seq ((items.toList.drop (sIx items.size 0 lo)).take (sIx items.size items.size hi - sIx items.size 0 lo)).toArray } })
    (hsz:items.size <= sizeLine):wpAny (model prog w) A (getItem (.ref t) (.ref sl)) Q E s:=by
  have htake:sizeOk (.seq ((items.toList.drop (sIx items.size 0 lo)).take (sIx items.size items.size hi - sIx items.size 0 lo)).toArray):=by
    show ((items.toList.drop (sIx items.size 0 lo)).take (sIx items.size items.size hi - sIx items.size 0 lo)).toArray.size <= sizeLine
    rw [List.size_toArray,List.length_take,List.length_drop,Array.length_toList]
    omega
  have hj:sIx items.size items.size hi <= items.size:=Z3D _ _ (Nat.le_refl _) hi
  obtain⟨os,hos,hcs,hds⟩:=id hs
  have hTs:s.TypeIs (.ref sl) "slice":=⟨os,hos,hcs⟩
  unfold getItem
  try with_reducible refine wpAny_holding ?_
  first | refine wpAny_bind (wpAny_pure ?_) | skip
  refine wpAny_bind (wpAny_sequenceKey ht.typeIs (by decide) ?_)
  refine wpAny_bind (wpAny_callSpecial?_slot (name:=Str.ofString "__getitem__") ht.typeIs PyProof.Rows.slot_tuple_getitem
    (wpAny_call_entry PyProof.Rows.slot_tuple_getitem ht.typeIs entry_tuple_getitem ?_ (args_tuple_getitem _ _)))
  show wpAny _ _ (Builtin.Tuple.tupleItemsOf (.ref t) >>= _) _ _ s
  refine wpAny_bind (tupleItemsOf_ ht ?_)
  refine wpAny_bind (wpAny_typeOf hTs ?_)
  rw [if_pos (by decide)]
  refine wpAny_bind (lB hs pl pu ?_)
  have hno:¬ ((((sIx items.size 0 lo:Nat):Int) == 0 && (1:Int) == 1 && (sIx items.size items.size hi - sIx items.size 0 lo) == items.size)=true):=by
    intro q
    rw [Bool.and_eq_true,Bool.and_eq_true] at q
    have q1:((sIx items.size 0 lo:Nat):Int)=0:=eq_of_beq q.1.1
    have q2:sIx items.size items.size hi - sIx items.size 0 lo=items.size:=eq_of_beq q.2
    exact hw ⟨by omega,by omega⟩
  show wpAny _ _ (if (((sIx items.size 0 lo:Nat):Int) == 0 && (1:Int) == 1 && (sIx items.size items.size hi - sIx items.size 0 lo) == items.size)=true then _ else _) _ _ s
  rw [if_neg hno,Z0B]
  first
    | exact wpAny_bind (m:=Builtin.Tuple.tupleExact _) (wpAny_newObj_type (wpAny_pure ⟨_,rfl,wpAny_pure h⟩) htake)
    | exact wpAny_bind (m:=Builtin.Tuple.tupleExact _) (wpAny_newObj_type (wpAny_bind (wpAny_pure (wpAny_pure ⟨_,rfl,wpAny_pure h⟩))) htake)
    | exact wpAny_bind (wpAny_bind (m:=Builtin.Tuple.tupleExact _) (wpAny_newObj_type (wpAny_pure (wpAny_pure ⟨_,rfl,wpAny_pure h⟩)) htake))
    | exact wpAny_bind (wpAny_bind (m:=Builtin.Tuple.tupleExact _) (wpAny_newObj_type (wpAny_pure ⟨_,rfl,wpAny_pure h⟩) htake))
end
end HT
namespace L2
open PySem PySem.Spec PyProof.Rows
noncomputable abbrev TO:=St->Hp->(Option Int->Hp->Prop)->Prop
noncomputable def PO (X:Cx) (e:Option Expr) (t:TO):Prop :=
  ∀ (pins:List (Addr × Obj)) (s:Shared) (σ:St) (H:Hp) (Q:Option Int->Hp->Prop),Inv X pins σ H s->t σ H Q ->
    wpAny (model X.prog X.w) X.A (evalPart e X.env) (fun u s'=>∃ o H',Inv X pins σ H' s' /\ IsPart u o /\ Q o H') X.xe s
noncomputable def Z1S:TO:=fun _ H Q=>Q none H
noncomputable def Z4x (t:TE):TO:=fun σ H Q=>t σ H fun x H1=>∃ i,x=.int i /\ Q (some i) H1
section
variable {X:Cx}{e:Expr}{te:TE}{lo hi:Option Expr}{tl th:TO}{pos p2:Pos}
theorem Z2p:PO X none Z1S:=by
  intro pins s σ H Q I h
  rw [evalPart_none]
  exact wpAny_pure ⟨none,H,I,.none,h⟩
theorem Z2o (h:PE X e te):PO X (some e) (Z4x te):=by
  intro pins s σ H Q I hw
  rw [evalPart_some]
  refine thn (h pins s σ H _ I hw) fun u s1 ⟨x,H1,I1,r1,q1⟩=>?_
  obtain⟨i,rfl,q⟩:=q1
  obtain⟨t,rfl⟩:=r1
  exact⟨some i,H1,I1,.int i t,q⟩
noncomputable def SlR (X:Cx) (r:V->Option Int->Option Int->Hp->VK->Prop):Prop :=
  ∀ (pins:List (Addr × Obj)) (s:Shared) (σ:St) (H:Hp) (x:V) (v vl vu:Value) (lo hi:Option Int) (sl:Addr) (Q:VK),Inv X pins σ H s->RelV x v->s.heap.IsSliceOf sl vl vu .none->IsPart vl lo->IsPart vu hi->r x lo hi H Q ->
    ∃ T id,typeLookup (.type T) "__getitem__" = pure (some (.builtin id)) /\ s.TypeIs v T /\ wpAny (model X.prog X.w) X.A (getItem v (.ref sl)) (EP X pins σ Q) X.xe s
theorem SlR.or {r r':V->Option Int->Option Int->Hp->VK->Prop}(h:SlR X r) (h':SlR X r'):SlR X (fun x lo hi H Q=>r x lo hi H Q \/ r' x lo hi H Q):=by
  intro pins s σ H x v vl vu lo hi sl Q I rx hs pl pu q
  rcases q with q | q
  . exact h pins s σ H x v vl vu lo hi sl Q I rx hs pl pu q
  . exact h' pins s σ H x v vl vu lo hi sl Q I rx hs pl pu q
noncomputable def tSl (r:V->Option Int->Option Int->Hp->VK->Prop) (te:TE) (tl th:TO):TE:=fun σ H Q=>te σ H fun x H1=>tl σ H1 fun l H2=>th σ H2 fun u H3=>r x l u H3 Q
theorem pe_slice {r:V->Option Int->Option Int->Hp->VK->Prop}(hr:SlR X r) (he:PE X e te) (hl:PO X lo tl) (hu:PO X hi th):PE X (.Subscript e (.Slice lo hi none p2) pos) (tSl r te tl th):=by
  intro pins s σ H Q I h
  refine Subscript_ (thn (he pins s σ H _ I h) fun v s1 ⟨x,H1,I1,r1,q1⟩=>?_)
  refine wpAny_Slice (thn (hl pins s1 σ H1 _ I1 q1) fun vl s2 ⟨l,H2,I2,pl,q2⟩=>thn (hu pins s2 σ H2 _ I2 q2) fun vu s3 ⟨u,H3,I3,pu,q3⟩=>?_)
  rw [evalPart_none]
  refine wpAny_pure ?_
  have I4:Inv X pins σ H3 { s3 with heap:=s3.heap.push { cls:=.type "slice",data:=.fields #[vl,vu,.none] } }:=I3.kept (t':=s3.toks) fun b ob q=>Heap.get?_push_of_some _ q
  obtain⟨T,id,hT,ht,hg⟩:=hr pins { s3 with heap:=s3.heap.push { cls:=.type "slice",data:=.fields #[vl,vu,.none] } } σ H3 x v vl vu l u s3.heap.objs.size Q I4 r1 (Heap.IsSliceOf.new ..) pl pu q3
  show wpAny (model X.prog X.w) X.A (subscriptTail e (.Slice lo hi none p2) v (.ref s3.heap.objs.size)) (EP X pins σ Q) X.xe { s3 with heap:=s3.heap.push { cls:=.type "slice",data:=.fields #[vl,vu,.none] } }
  exact tail_any (ops:=[.ref s3.heap.objs.size,v]) ht hT hg (by with_unfolding_all rfl)
noncomputable def zU (xs:List V) (lo hi:Option Int):List V:=(xs.drop (HT.sIx xs.length 0 lo)).take (HT.sIx xs.length xs.length hi - HT.sIx xs.length 0 lo)
theorem rC (xs:List V) (lo hi:Option Int):(zU xs lo hi).length <= xs.length:=by
  unfold zU
  rw [List.length_take,List.length_drop]
  omega
noncomputable def Z5I (K:Frag):V->Option Int->Option Int->Hp->VK->Prop:=fun x lo hi H Q=>∃ a xs,x=.ref a /\ SqT K H a xs /\
  ¬ (HT.sIx xs.length 0 lo=0 /\ HT.sIx xs.length xs.length hi=xs.length) /\ ∀ p,H p=none->Q (.ref p) (upd H p (.tup (zU xs lo hi)))
theorem B7:SlR X (Z5I X.K):=by
  intro pins s σ H x v vl vu lo hi sl Q I rx hs pl pu h
  obtain⟨a,xs,rfl,hx,hw,q⟩:=h
  cases rx
  obtain⟨its,r,ht,hz⟩:=I.tuple hx
  have hlen:its.toArray.size=xs.length:=by rw [List.size_toArray];exact r.length.symm
  refine⟨"tuple",_,PyProof.Rows.slot_tuple_getitem.lookup,ht.typeIs,?_⟩
  refine HT.getItem_tuple_cut ht hs pl pu (by rw [hlen];exact hw) ?_ (by rw [hlen];exact hz)
  rw [hlen]
  refine⟨.ref s.heap.objs.size,_,I.laid (t':=s.toks) (o:=.tup (zU xs lo hi)) (fun b ob q=>Heap.get?_push_of_some _ q) (Nat.le_refl _) ?_,rfl,q _ (I.hok.fresh (Nat.le_refl _))⟩
  exact⟨Nat.le_trans (rC xs lo hi) hz,_,(r.drop (HT.sIx xs.length 0 lo)).take (HT.sIx xs.length xs.length hi - HT.sIx xs.length 0 lo),IsTup.new _ _⟩
end
noncomputable def ixN (n:Nat) (i:Int):Option Nat:=if 0 <= i then (if i < n then some i.toNat else none) else if -(n:Int) <= i then some (i + n).toNat else none
noncomputable def atI {α:Type}(xs:List α) (i:Int):Option α:=(ixN xs.length i).bind fun j=>xs[j]?
theorem N4 {n:Nat}{i:Int}{j:Nat}(h:ixN n i=some j):seqIndex? i n=some j /\ j < n /\ -(n:Int) <= i /\ i < n:=by
  unfold ixN at h
  by_cases h0:0 <= i
  . rw [if_pos h0] at h
    by_cases h1:i < n
    . rw [if_pos h1] at h
      have e:i.toNat=j:=Option.some.inj h
      exact⟨by rw [seqIndex_of h0 h1,e],by omega,by omega,h1⟩
    . rw [if_neg h1] at h;cases h
  . rw [if_neg h0] at h
    by_cases h1:-(n:Int) <= i
    . rw [if_pos h1] at h
      have e:(i + n).toNat=j:=Option.some.inj h
      exact⟨by rw [seqIndex_neg (by omega) h1,e],by omega,h1,by omega⟩
    . rw [if_neg h1] at h;cases h
theorem xP {α:Type}{xs:List α}{i:Int}{v:α}(h:atI xs i=some v):∃ j,seqIndex? i xs.length=some j /\ xs[j]? = some v /\ j < xs.length /\ -(xs.length:Int) <= i /\ i < xs.length:=by
  unfold atI at h
  cases e:ixN xs.length i with
  | none=>rw [e] at h;cases h
  | some j =>
    rw [e] at h
    obtain⟨h1,h2,h3,h4⟩:=N4 e
    exact⟨j,h1,h,h2,h3,h4⟩
theorem gH {α:Type}{xs:List α}{j:Nat}{v:α}(h:xs[j]? = some v):atI xs (j:Int)=some v:=by
  have hj:j < xs.length:=(List.getElem?_eq_some_iff.mp h).1
  have e:ixN xs.length (j:Int)=some j:=by
    unfold ixN
    rw [if_pos (by omega),if_pos (by omega)];simp
  unfold atI;rw [e];exact h
noncomputable def P0 (b:Expr):Prop:=∀ o i,subscripted b false o i=operate [o,i] (getItem o i)
noncomputable def IxR (X:Cx) (r:R2):Prop :=
  ∀ (value slice:Expr) (pins:List (Addr × Obj)) (s:Shared) (σ:St) (H:Hp) (x y:V) (v u:Value) (Q:VK),Inv X pins σ H s->RelV x v->RelV y u->r x y H Q ->
    subscripted slice false v u=operate [v,u] (getItem v u)->wpAny (model X.prog X.w) X.A (subscriptTail value slice v u) (EP X pins σ Q) X.xe s
noncomputable def MtR (X:Cx) (id:String) (r:V->List V->Hp->VK->Prop):Prop :=
  ∀ (pins:List (Addr × Obj)) (s:Shared) (σ:St) (H:Hp) (x:V) (xs:List V) (v:Value) (us:List Value) (Q:VK),Inv X pins σ H s->RelV x v->Vals xs us->r x xs H Q ->
    wpAny (model X.prog X.w) X.A (call (.builtin id) (v :: us)) (EP X pins σ Q) X.xe s
section
variable {X:Cx}{a b:Expr}{ta tb:TE}{pos:Pos}
theorem IxR.or {r r':R2}(h:IxR X r) (h':IxR X r'):IxR X (fun x y H Q=>r x y H Q \/ r' x y H Q):=by
  intro value slice pins s σ H x y v u Q I rx ry q hs
  rcases q with q | q
  . exact h value slice pins s σ H x y v u Q I rx ry q hs
  . exact h' value slice pins s σ H x y v u Q I rx ry q hs
theorem MtR.or {id:String}{r r':V->List V->Hp->VK->Prop}(h:MtR X id r) (h':MtR X id r'):MtR X id (fun x xs H Q=>r x xs H Q \/ r' x xs H Q):=by
  intro pins s σ H x xs v us Q I rx rs q
  rcases q with q | q
  . exact h pins s σ H x xs v us Q I rx rs q
  . exact h' pins s σ H x xs v us Q I rx rs q
theorem Z50 {r:R2}(hr:IxR X r) (ha:PE X a ta) (hb:PE X b tb) (hs:P0 b):PE X (.Subscript a b pos) (tOp r ta tb):=by
  intro pins s σ H Q I h
  exact Subscript_ (Z4m ha hb I h fun v u s2 x y H2 I2 rx ry q=>hr a b pins s2 σ H2 x y v u Q I2 rx ry q (hs _ _))
noncomputable def Z4S (K:Frag):R2:=fun x y H Q=>∃ p xs i v,x=.ref p /\ y=.int i /\ SqL K H p xs /\ atI xs i=some v /\ Q v H
noncomputable def Z4Q (K:Frag):R2:=fun x y H Q=>∃ p xs i v,x=.ref p /\ y=.int i /\ SqT K H p xs /\ atI xs i=some v /\ Q v H
noncomputable def Z4R:R2:=fun x y H Q=>∃ z i c,x=.str z /\ y=.int i /\ z.length <= sizeLine /\ atI z.cps.toList i=some c /\ Q (.str ⟨#[c]⟩) H
theorem ix_list:IxR X (Z4S X.K):=by
  intro value slice pins s σ H x y v u Q I rx ry h hs
  obtain⟨p,xs,i,z,rfl,rfl,hq,he,q⟩:=h
  cases rx
  obtain⟨t,rfl⟩:=ry
  obtain⟨its,r,pl,hz⟩:=I.list hq
  obtain⟨j,h1,h2,h3,h4,h5⟩:=xP he
  obtain⟨w,ew,rw'⟩:=r.get h2
  have hl:=r.length
  have hn:=pY
  have fin:EP X pins σ Q w s:=⟨z,H,I,rw',q⟩
  by_cases h0:0 <= i
  . have hj:i.toNat=j:=by
      rw [seqIndex_of h0 h5] at h1
      exact Option.some.inj h1
    exact item_listR pl.isList h0 (by omega) (by rw [hj];simpa using ew) fin hs
  . have hj:(i + (its.toArray.size:Int)).toNat=j:=by
      rw [seqIndex_neg (by omega) h4] at h1
      rw [List.size_toArray,<- hl]
      exact Option.some.inj h1
    exact subscriptTail_builtinR (x:=w) pl.isList.typeIs slot_list_getitem.lookup
      (wpAny_getItem_list_neg (Q:=fun r s'=>r=w /\ EP X pins σ Q r s') pl.isList (by omega) (by rw [List.size_toArray] <;> omega) (by omega) (by rw [hj];simpa using ew) ⟨rfl,fin⟩) hs
theorem ix_tup:IxR X (Z4Q X.K):=by
  intro value slice pins s σ H x y v u Q I rx ry h hs
  obtain⟨p,xs,i,z,rfl,rfl,hq,he,q⟩:=h
  cases rx
  obtain⟨t,rfl⟩:=ry
  obtain⟨its,r,pl,hz⟩:=I.tuple hq
  obtain⟨j,h1,h2,h3,h4,h5⟩:=xP he
  obtain⟨w,ew,rw'⟩:=r.get h2
  have hl:=r.length
  have hn:=pY
  have fin:EP X pins σ Q w s:=⟨z,H,I,rw',q⟩
  exact subscriptTail_builtinR (x:=w) pl.typeIs slot_tuple_getitem.lookup
    (getItem_tuple (j:=j) (Q:=fun r s'=>r=w /\ EP X pins σ Q r s') pl (by omega) (by omega) (by rw [List.size_toArray,<- hl];exact h1) (by simpa using ew) ⟨rfl,fin⟩) hs
theorem Z4c:IxR X Z4R:=by
  intro value slice pins s σ H x y v u Q I rx ry h hs
  obtain⟨z,i,c,rfl,rfl,hz,he,q⟩:=h
  obtain⟨t,rfl⟩:=rx
  obtain⟨t',rfl⟩:=ry
  obtain⟨j,h1,h2,h3,h4,h5⟩:=xP he
  have hl:z.cps.toList.length=z.length:=by simp [Str.length]
  rw [hl] at h1 h4 h5
  have hn:=pY
  exact tail_any (typeIs_str s z t) slot_str_getitem.lookup (getItem_str (c:=c) (by
    have e1:decide (i < -(2 ^ 63:Int))=false:=decide_eq_false (by omega)
    have e2:decide (i ≥ 2 ^ 63)=false:=decide_eq_false (by omega)
    rw [e1,e2,Bool.or_false]) (by rw [h1];simpa using h2) ⟨.str ⟨#[c]⟩,H,I.tok _,⟨_,rfl⟩,q⟩) hs
noncomputable def rIx (K:Frag):R2:=fun x y H Q=>Z4S K x y H Q \/ Z4Q K x y H Q \/ Z4R x y H Q
theorem Z4d:IxR X (rIx X.K):=ix_list.or (ix_tup.or Z4c)
theorem E1 (its:List Value) (n j:Nat) (u:Value):Obj.mapSeq (·.setIfInBounds j u) { cls:=.type "list",data:=.seq its.toArray n }={ cls:=.type "list",data:=.seq (its.set j u).toArray n }:=by
  simp [Obj.mapSeq]
theorem Inv.lst {pins:List (Addr × Obj)}{σ:St}{H:Hp}{s:Shared}{p:Addr}{xs:List V}(I:Inv X pins σ H s) (h:H p=some (.lst xs)) :
    ∃ (its:List Value) (n:Nat),Vals xs its /\ s.heap.get? p=some { cls:=.type "list",data:=.seq its.toArray n } /\ xs.length <= sizeLine:=by
  obtain⟨z,its,n,r,e⟩:=I.hok p _ h
  exact⟨its,n,r,e,z⟩
theorem Inv.lstUpd {pins:List (Addr × Obj)}{σ:St}{H:Hp}{s:Shared}{p:Addr}{xs ys:List V}{its its':List Value}{n n':Nat}{f:Obj->Obj}(I:Inv X pins σ H s) (h:H p=some (.lst xs))
    (ho:s.heap.get? p=some { cls:=.type "list",data:=.seq its.toArray n }) (hf:f { cls:=.type "list",data:=.seq its.toArray n }={ cls:=.type "list",data:=.seq its'.toArray n' }) (r:Vals ys its') (hz:ys.length <= sizeLine) (t:Nat) :
    Inv X pins σ (upd H p (.lst ys)) { s with heap:=s.heap.update p f,toks:=t }:=by
  have e:(s.heap.update p f).get? p=some { cls:=.type "list",data:=.seq its'.toArray n' }:=by
    rw [Heap.get?_update_self f ho (by rw [hf] <;> rfl),hf]
  refine I.write (x:=p) (e:=p) (by rw [h];trivial) (.inl rfl) (fun b u hb q=>(Heap.get?_update_other _ _ (Ne.symm hb)).trans q) ⟨_,e⟩ ?_
  exact⟨hz,its',n',r,e⟩
noncomputable def Z3h:V->V->V->Hp->(Hp->Prop)->Prop:=fun o i v H Q=>∃ p xs k j,o=.ref p /\ i=.int k /\ H p=some (.lst xs) /\ ixN xs.length k=some j /\ Q (upd H p (.lst (xs.set j v)))
theorem Z05:Z5q X Z3h:=by
  intro pins s σ H o i v ov iv u Q I ro ri rv h
  obtain⟨p,xs,k,j,rfl,rfl,hp,hj,q⟩:=h
  cases ro
  obtain⟨t,rfl⟩:=ri
  obtain⟨its,n,r,ho,hz⟩:=I.lst hp
  obtain⟨h1,h2,h3,h4⟩:=N4 hj
  have hl:=r.length
  have hn:=pY
  have I':Inv X pins σ (upd H p (.lst (xs.set j v))) { s with heap:=s.heap.update p (Obj.mapSeq (·.setIfInBounds j u)) } :=
    I.lstUpd hp ho (E1 its n j u) (r.set rv j) (by rw [List.length_set];exact hz) s.toks
  by_cases h0:0 <= k
  . have hk:k.toNat=j:=by
      rw [seqIndex_of h0 h4] at h1
      exact Option.some.inj h1
    exact PySem.W.ki_setAt ho h0 (by omega) (by rw [List.size_toArray,<- hl];exact h4) (by rw [hk];exact⟨_,I',q⟩)
  . have hk:(k + (its.toArray.size:Int)).toNat=j:=by
      rw [seqIndex_neg (by omega) h3] at h1
      rw [List.size_toArray,<- hl]
      exact Option.some.inj h1
    exact PySem.W.ki_setBack ho (by omega) (by rw [List.size_toArray,<- hl];exact h3) (by omega) (by rw [hk];exact⟨_,I',q⟩)
theorem wH (lo hi:Option Int) (n:Nat):(sliceBounds lo hi none n).1=((HT.sIx n 0 lo:Nat):Int) /\ (sliceBounds lo hi none n).2.1=((HT.sIx n n hi:Nat):Int) /\ (sliceBounds lo hi none n).2.2=1:=by
  refine⟨?_,?_,rfl⟩
  . cases lo with
    | none=>simp [sliceBounds,HT.sIx]
    | some i =>
      simp only [sliceBounds,HT.sIx,Option.getD_none,show (1:Int) > 0 by decide,if_true]
      by_cases h:i < 0
      . simp only [h,if_true] <;> omega
      . simp only [h,if_false] <;> omega
  . cases hi with
    | none=>simp [sliceBounds,HT.sIx]
    | some i =>
      simp only [sliceBounds,HT.sIx,Option.getD_none,show (1:Int) > 0 by decide,if_true]
      by_cases h:i < 0
      . simp only [h,if_true] <;> omega
      . simp only [h,if_false] <;> omega
theorem uC (its:List Value) (lo hi:Option Int):slicePick its.toArray lo hi none=((its.drop (HT.sIx its.length 0 lo)).take (HT.sIx its.length its.length hi - HT.sIx its.length 0 lo)).toArray:=by
  obtain⟨h1,h2,h3⟩:=wH lo hi its.toArray.size
  unfold slicePick
  rw [h1,h2,h3]
  simp only [sliceRange_one,pick_run,List.size_toArray] <;> rfl
noncomputable def Z5J (K:Frag):V->Option Int->Option Int->Hp->VK->Prop:=fun x lo hi H Q=>∃ a xs,x=.ref a /\ SqL K H a xs /\ ∀ p,H p=none->Q (.ref p) (upd H p (.lst (zU xs lo hi)))
theorem L0:SlR X (Z5J X.K):=by
  intro pins s σ H x v vl vu lo hi sl Q I rx hs pl pu h
  obtain⟨a,xs,rfl,hx,q⟩:=h
  cases rx
  obtain⟨its,r,ht,hz⟩:=I.list hx
  have hlen:=r.length
  refine⟨"list",_,slot_list_getitem.lookup,ht.isList.typeIs,?_⟩
  refine wpAny_getItem_list_slice ht.isList hs pl pu .none (by simp) ?_ (by rw [List.size_toArray] <;> omega)
  rw [uC,<- hlen]
  refine⟨.ref s.heap.objs.size,_,I.laid (t':=s.toks) (o:=.lst (zU xs lo hi)) (fun b ob q=>Heap.get?_push_of_some _ q) (Nat.le_refl _) ?_,rfl,q _ (I.hok.fresh (Nat.le_refl _))⟩
  exact⟨Nat.le_trans (rC xs lo hi) hz,_,0,(r.drop (HT.sIx xs.length 0 lo)).take (HT.sIx xs.length xs.length hi - HT.sIx xs.length 0 lo),Heap.get?_push_size _ rfl⟩
theorem call_len_seq:CallR X (.builtin "len") (fun xs H Q=>∃ p ys,xs=[.ref p] /\ (SqL X.K H p ys \/ SqT X.K H p ys) /\ Q (.int ys.length) H):=by
  intro pins s σ H xs us Q I r h
  obtain⟨p,ys,rfl,hq,q⟩:=h
  obtain⟨u,rfl,rx⟩:=oT r
  cases rx
  have hn:=pY
  rcases hq with hq | hq
  . obtain⟨its,r',pl,hz⟩:=I.list hq
    have hlen:=r'.length
    exact Calls.call_len_list pl.isList (by simp only [List.size_toArray] <;> omega) ⟨.int ys.length,H,I.tok _,⟨s.toks + 1,by rw [List.size_toArray,hlen]⟩,q⟩
  . obtain⟨its,r',pl,hz⟩:=I.tuple hq
    have hlen:=r'.length
    exact len_tuple pl (by simp only [List.size_toArray] <;> omega) ⟨.int ys.length,H,I.tok _,⟨s.toks + 1,by rw [List.size_toArray,hlen]⟩,q⟩
theorem xO:CallR X (.builtin "len") (fun xs H Q=>∃ z,xs=[.str z] /\ z.length <= sizeLine /\ Q (.int z.length) H):=by
  intro pins s σ H xs us Q I r h
  obtain⟨z,rfl,hz,q⟩:=h
  obtain⟨u,rfl,t,rfl⟩:=oT r
  have hn:=pY
  exact len_str (by omega) ⟨.int z.length,H,I.tok _,⟨_,rfl⟩,q⟩
theorem CallR.or {f:Value}{r r':List V->Hp->VK->Prop}(h:CallR X f r) (h':CallR X f r'):CallR X f (fun xs H Q=>r xs H Q \/ r' xs H Q):=by
  intro pins s σ H xs us Q I rs q
  rcases q with q | q
  . exact h pins s σ H xs us Q I rs q
  . exact h' pins s σ H xs us Q I rs q
theorem xN:CallR X (.type "list") (fun xs H Q=>∃ p ys,xs=[.ref p] /\ (SqL X.K H p ys \/ SqT X.K H p ys) /\ ∀ l,H l=none->Q (.ref l) (upd H l (.lst ys))):=by
  intro pins s σ H xs us Q I r h
  obtain⟨p,ys,rfl,hq,q⟩:=h
  obtain⟨u,rfl,rx⟩:=oT r
  cases rx
  have fin:∀ (its:List Value),Vals ys its->ys.length <= sizeLine->∀ (h':Heap) (c':Nat),(∀ b o',s.heap.get? b=some o'->h'.get? b=some o') ->
      h'.get? s.heap.objs.size=some { cls:=.type "list",dict:=none,data:=.seq its.toArray c',slots:=#[] }->EP X pins σ Q (.ref s.heap.objs.size) { s with heap:=h' }:=fun its r' hz h' c' kp e =>
    ⟨.ref s.heap.objs.size,_,I.laid (t':=s.toks) kp (Nat.le_refl _) (show ObjOk X.prog X.w _ h' _ (.lst ys) from ⟨hz,its,c',r',e⟩),rfl,q _ (I.hok.fresh (Nat.le_refl _))⟩
  rcases hq with hq | hq
  . obtain⟨its,r',pl,hz⟩:=I.list hq
    have hlen:=r'.length
    obtain⟨o,ho,hc,n,hd⟩:=pl.isList
    exact call_list_seq p (.inl rfl) ho hc hd (fun h' c' kp e=>fin its r' hz h' c' kp e) (by simp only [List.size_toArray] <;> omega)
  . obtain⟨its,r',pl,hz⟩:=I.tuple hq
    have hlen:=r'.length
    obtain⟨o,ho,hc,n,hd⟩:=pl
    exact call_list_seq p (.inr rfl) ho hc hd (fun h' c' kp e=>fin its r' hz h' c' kp e) (by simp only [List.size_toArray] <;> omega)
theorem oB:CallR X (.type "tuple") (fun xs H Q=>∃ p ys,xs=[.ref p] /\ ((SqL X.K H p ys /\ ∀ l,H l=none->Q (.ref l) (upd H l (.tup ys))) \/ (SqT X.K H p ys /\ Q (.ref p) H))):=by
  intro pins s σ H xs us Q I r h
  obtain⟨p,ys,rfl,h⟩:=h
  obtain⟨u,rfl,rx⟩:=oT r
  cases rx
  rcases h with ⟨hq,q⟩ | ⟨hq,q⟩
  . obtain⟨its,r',pl,hz⟩:=I.list hq
    have hlen:=r'.length
    refine call_tuple_list pl.isList (fun h' kp=>?_) (by simp only [List.size_toArray] <;> omega)
    have I1:Inv X pins σ H { s with heap:=h' }:=I.kept (t':=s.toks) kp
    have I2:Inv X pins σ (upd H h'.objs.size (.tup ys)) { s with heap:=h'.push { cls:=.type "tuple",data:=.seq its.toArray } } :=
      I1.laid (t':=s.toks) (fun b o e=>Heap.get?_push_of_some _ e) (Nat.le_refl _) (show ObjOk X.prog X.w _ _ _ (.tup ys) from ⟨hz,its,r',IsTup.new _ _⟩)
    exact⟨.ref h'.objs.size,_,I2,rfl,q _ (I1.hok.fresh (Nat.le_refl _))⟩
  . obtain⟨its,r',pl,hz⟩:=I.tuple hq
    exact call_tuple_same pl ⟨.ref p,H,I,rfl,q⟩
noncomputable def tyV (K:Frag) (T:String) (x:V) (H:Hp):Prop:=match x with
  | .str _=>T = "str"
  | .int _=>T = "int"
  | .ref p=>(T = "list" /\ ∃ xs,SqL K H p xs) \/ (T = "tuple" /\ ∃ o,K.lookup p=some o /\ o.cls=.type "tuple" /\ o.dict=none) \/
      (T = "dict" /\ ((∃ kvs,H p=some (.dK kvs)) \/ ∃ es ep,H p=some (.dE es ep))) \/ (T = "set" /\ ∃ S n,H p=some (.set S n))
  | _=>False
theorem A8 {pins:List (Addr × Obj)}{σ:St}{H:Hp}{s:Shared}{T:String}{x:V}{v:Value}(I:Inv X pins σ H s) (r:RelV x v) (ty:tyV X.K T x H) :
    s.TypeIs v T /\ ∀ a,v=.ref a->∃ ob,s.heap.get? a=some ob /\ ob.dict=none:=by
  cases x with
  | str z =>
    obtain⟨t,rfl⟩:=r
    cases (show T = "str" from ty)
    exact⟨typeIs_str s z t,fun _ e=>nomatch e⟩
  | int i =>
    obtain⟨t,rfl⟩:=r
    cases (show T = "int" from ty)
    exact⟨typeIs_int s i t,fun _ e=>nomatch e⟩
  | ref p =>
    cases r
    rcases ty with ⟨rfl,xs,hq⟩ | ⟨rfl,o,hk,hc,hd⟩ | ⟨rfl,hk⟩ | ⟨rfl,S,n,hk⟩
    . obtain⟨its,_,pl,_⟩:=I.list hq
      refine⟨pl.isList.typeIs,fun a e=>?_⟩
      cases e
      obtain⟨o,n,e,c,hd,_⟩:=pl
      exact⟨o,e,hd⟩
    . refine⟨⟨o,I.kIn p o hk,hc⟩,fun a e=>?_⟩
      cases e
      exact⟨o,I.kIn _ o hk,hd⟩
    . have z:∃ o,s.heap.get? p=some o /\ o.ExactDict:=by
        rcases hk with ⟨kvs,hk⟩ | ⟨kvs,ep,hk⟩
        . obtain⟨_,_,_,_,o,_,_,e,ex,_⟩:=I.hok p _ hk
          exact⟨o,e,ex⟩
        . obtain⟨_,_,_,_,o,_,e,ex,_⟩:=I.hok p _ hk
          exact⟨o,e,ex⟩
      obtain⟨o,e,ex⟩:=z
      refine⟨⟨o,e,ex.1⟩,fun a e2=>?_⟩
      cases e2
      exact⟨o,e,ex.2.1⟩
    . obtain⟨o,_,_,_,e,ex,_⟩:=I.hok p _ hk
      refine⟨⟨o,e,ex.1⟩,fun a e2=>?_⟩
      cases e2
      exact⟨o,e,ex.2.1⟩
  | _=>exact False.elim ty
noncomputable def Z5B (K:Frag) (T:String) (r:V->List V->Hp->VK->Prop) (to:TE):TE:=fun σ H Q=>to σ H fun x H1=>tyV K T x H1 /\ r x [] H1 Q
noncomputable def tBM (K:Frag) (T:String) (r:V->List V->Hp->VK->Prop) (to:TE) (t:TA):TE:=fun σ H Q=>to σ H fun x H1=>tyV K T x H1 /\ t σ H1 fun xs H2=>r x xs H2 Q
variable {o e:Expr}{es:List Expr}{to:TE}{t:TA}{name:Str}{apos cpos:Pos}{T id:String}{r:V->List V->Hp->VK->Prop}
theorem Z3Y (pa:PlainAttrs T) (slot:Slot T name id) (hty:typeOf (.builtin id)=pure (.type "method_descriptor")) (hm:MtR X id r) (ho:PE X o to)
    (hbase:attributeBase o name X.env (eval o X.env)=eval o X.env:=by rfl) (hline:(apos.endLine == cpos.line)=true:=by rfl):PE X (.Call (.Attribute o name apos) [] [] cpos) (Z5B X.K T r to):=by
  intro pins s σ H Q I h
  refine wpAny_Call_method0_late hbase hline (thn (ho pins s σ H _ I h) fun v s1 ⟨x,H1,I1,r1,ty,q1⟩=>?_)
  obtain⟨h1,h2⟩:=A8 I1 r1 ty
  exact⟨T,id,pa,slot,hty,h1,h2,Calls.callWith_builtin rfl (PySem.evalArgs_none (hm pins s1 σ H1 x [] v [] Q I1 r1 .nil q1))⟩
theorem Z0F (pa:PlainAttrs T) (slot:Slot T name id) (hty:typeOf (.builtin id)=pure (.type "method_descriptor")) (hm:MtR X id r) (ho:PE X o to) (ha:PA X (e :: es) t)
    (hbase:attributeBase o name X.env (eval o X.env)=eval o X.env:=by rfl)
    (hfew:((backTo cpos (starEach (e :: es) X.env)).all (fun x=>!x.1) && (backToKw cpos (keywordEach [] X.env)).all (fun x=>x.1.isSome)
      && decide ((e :: es).length + ([]:List Keyword).length + (if ([]:List Keyword).isEmpty then 0 else 1) < 30))=true:=by rfl)
    (hline:(apos.endLine == cpos.line)=true:=by rfl) (hs:starEach (e :: es) X.env=(false,eval e X.env) :: starEach es X.env:=by rfl) (hplain:(backTo cpos (starEach es X.env)).any (·.1)=false:=by rfl) :
    PE X (.Call (.Attribute o name apos) (e :: es) [] cpos) (tBM X.K T r to t):=by
  intro pins s σ H Q I h
  refine wpAny_Call_method_late hbase hfew hline rfl (thn (ho pins s σ H _ I h) fun v s1 ⟨x,H1,I1,r1,ty,q1⟩=>?_)
  obtain⟨h1,h2⟩:=A8 I1 r1 ty
  refine⟨T,id,pa,slot,hty,h1,h2,?_⟩
  have hA:=ha cpos pins s1 σ H1 _ I1 q1
  rw [hs] at hA ⊢
  refine Calls.callWith_builtin (by show (false || (backTo cpos (starEach es X.env)).any (·.1))=false;rw [hplain] <;> rfl) (Calls.evalArgs_plain ?_)
  exact thn hA fun us s2 ⟨vs,H2,I2,r2,q2⟩=>hm pins s2 σ H2 x vs v us Q I2 r1 r2 q2
end
noncomputable def MtM (X:Cx) (id:String) (r:V->List V->Hp->VK->Prop):Prop :=
  ∀ (pins:List (Addr × Obj)) (s:Shared) (σ:St) (H:Hp) (x:V) (xs:List V) (v:Value) (us:List Value) (Q:VK),Inv X pins σ H s->RelV x v->Vals xs us->r x xs H Q ->
    wpAny (model X.prog X.w) X.A (call (.builtin id) (v :: us)) (EP X pins σ Q) X.xe s
theorem Vals.one:∀ {x:V}{us:List Value},Vals [x] us->∃ u,us=[u] /\ RelV x u
  | _,_,.cons r .nil=>⟨_,rfl,r⟩
theorem Vals.two:∀ {x y:V}{us:List Value},Vals [x,y] us->∃ u v,us=[u,v] /\ RelV x u /\ RelV y v
  | _,_,_,.cons r (.cons q .nil)=>⟨_,_,rfl,r,q⟩
theorem Vals.zero:∀ {us:List Value},Vals [] us->us=[]
  | _,.nil=>rfl
theorem Vals.reverse {xs:List V}{us:List Value}(h:Vals xs us):Vals xs.reverse us.reverse:=by
  induction h with
  | nil=>exact .nil
  | cons r t ih=>rw [List.reverse_cons,List.reverse_cons];exact Vals.append ih (.cons r .nil)
section
variable {X:Cx}{pins:List (Addr × Obj)}{σ:St}{H:Hp}{s:Shared}{l b:Addr}{xs ys zs:List V}
theorem Inv.lset {its its':List Value}{n:Nat}{f:Array Value->Array Value}{t':Nat}(I:Inv X pins σ H s) (hH:H l=some (.lst xs))
    (e:s.heap.get? l=some { cls:=.type "list",data:=.seq its.toArray n }) (hf:f its.toArray=its'.toArray) (hv:Vals ys its') (hz:ys.length <= sizeLine) :
    Inv X pins σ (upd H l (.lst ys)) { s with heap:=s.heap.update l (Obj.mapSeq f),toks:=t' }:=by
  have q:=PySem.IsL.update e f
  rw [hf] at q
  refine I.write (x:=l) (e:=l) (by rw [hH];exact trivial) (.inl rfl) (fun b' u hb hu=>(Heap.get?_update_other s.heap (Obj.mapSeq f) (Ne.symm hb)).trans hu) ⟨_,q⟩ ?_
  exact⟨hz,its',_,hv,q⟩
theorem Inv.lnew {its:List Value}{t':Nat}(I:Inv X pins σ H s) (hv:Vals ys its) (hz:ys.length <= sizeLine) :
    Inv X pins σ (upd H s.heap.objs.size (.lst ys)) { s with heap:=s.heap.push { cls:=.type "list",data:=.seq its.toArray },toks:=t' } :=
  I.laid (fun _ _ q=>Heap.get?_push_of_some _ q) (Nat.le_refl _) ⟨hz,its,0,hv,Heap.get?_push_size _ rfl⟩
theorem Inv.fresh (I:Inv X pins σ H s):H s.heap.objs.size=none:=I.hok.fresh (Nat.le_refl _)
theorem Inv.lstM (I:Inv X pins σ H s) (hH:H l=some (.lst xs)):xs.length <= sizeLine /\ ∃ (its:List Value) (n:Nat),Vals xs its /\ xs.length=its.length /\ s.heap.get? l=some { cls:=.type "list",data:=.seq its.toArray n }:=by
  obtain⟨z,its,n,r,e⟩:=I.hok l _ hH
  exact⟨z,its,n,r,r.length,e⟩
end
section
variable {X:Cx}
noncomputable def wK:V->List V->Hp->VK->Prop:=fun x vs H Q=>∃ l xs y,x=.ref l /\ vs=[y] /\ H l=some (.lst xs) /\ xs.length < sizeLine /\ Q .non (upd H l (.lst (xs ++ [y])))
theorem pV:MtM X "list.append" wK:=by
  intro pins s σ H x vs v us Q I rx rv h
  obtain⟨l,xs,y,rfl,rfl,hH,hz,q⟩:=h
  cases rx
  obtain⟨u,rfl,ru⟩:=rv.one
  obtain⟨z,its,n,r,hl,e⟩:=I.lstM hH
  refine call_meets F.slot_list_append ⟨_,e,rfl⟩ F.entry_list_append (F.args_list_append_2 _ _) (PySem.list_append l its.toArray n u (by rw [List.size_toArray];omega)) ⟨e,?_⟩
  refine⟨.non,_,I.lset (its':=its ++ [u]) hH e (by simp) (r.append (.cons ru .nil)) ?_,rfl,q⟩
  rw [List.length_append,List.length_singleton]
  omega
noncomputable def Z4U:R2:=fun x y H Q=>∃ l b xs zs,x=.ref l /\ y=.ref b /\ H l=some (.lst xs) /\ H b=some (.lst zs) /\ xs.length + zs.length <= sizeLine /\ ∀ p,H p=none->Q (.ref p) (upd H p (.lst (xs ++ zs)))
theorem Z41:OpR X (binaryOp .Add) Z4U:=by
  intro pins s σ H x y v u Q I rx ry h
  obtain⟨l,b,xs,zs,rfl,rfl,hH,hB,hz,q⟩:=h
  cases rx
  cases ry
  obtain⟨z,its,n,r,hl,e⟩:=I.lstM hH
  obtain⟨z2,its2,n2,r2,hl2,e2⟩:=I.lstM hB
  refine PySem.P.add_list e e2 ?_ (by rw [List.size_toArray,List.size_toArray];omega)
  have ea:its.toArray ++ its2.toArray=(its ++ its2).toArray:=by simp
  rw [ea]
  exact⟨.ref _,_,I.lnew (t':=s.toks) (r.append r2) (by rw [List.length_append];omega),rfl,q _ I.fresh⟩
end
section
variable {prog:Program}{w:World}{A:Around}{E:Value->Shared->Prop}{s:Shared}
set_option maxRecDepth 100000 in
end
section
variable {X:Cx}
end
end L2
namespace Att
open PySem PySem.W PySem.Calls PyProof.Rows
theorem rK {P:Params}{h:Heap}:∀ (ns:List Int) (vs:List Value),WellAll P h vs (ns.map WData.int)->IntsAre vs ns:=by
  intro ns
  induction ns with
  | nil =>
    intro vs w
    rw [List.map_nil] at w
    cases w
    exact .nil
  | cons n ns ih =>
    intro vs w
    rw [List.map_cons] at w
    cases w with
    | cons a b =>
      cases a
      exact .cons _ _ (ih _ b)
theorem R0 {l:OpenLaw}{n:Nat}(hn:l.most=some n) {P:Params}{h:Heap}{args:List WData}{vals:List Value}
    (hpre:l.row.toRowW.claim.pre args=true) (hwl:WellAll P h vals args) :
    ∃ a vs ns,vals=[Value.ref a] /\ args=[WData.list (ns.map WData.int)] /\ h.get? a=some { cls:=.type "list",data:=.seq vs.toArray } /\ IntsAre vs ns /\ ns.length <= n:=by
  have hsh:WShape.hasAll [] args [.list .int]=true:=(pre_splitW hpre).1
  have hc:l.pre.holds [] { args:=args }=true:=(pre_splitW hpre).2
  obtain⟨d,r,rfl,h1,h2⟩:=hasAllW_cons hsh
  obtain rfl:=hasAllW_nil h2
  obtain⟨xs,rfl,h3⟩:=hasW_list h1
  obtain⟨ns,rfl⟩:=items_int h3
  have hlen:ns.length <= n:=by
    unfold OpenLaw.pre at hc
    have h4:(WTm.not (.lt (.lit (.int (n:Int))) (.len (.arg 0)))).holds [] { args:=[.list (ns.map .int)] }=true:=by
      have h4:=(holds_andW hc).1
      rw [hn] at h4
      exact h4
    have h5:=condW_of h4 (w_not (w_lt w_lit (w_len_list (w_arg rfl))))
    rw [List.length_map] at h5
    refine Nat.le_of_not_lt fun q=>?_
    have q':(n:Int) < ((ns.length:Nat):Int):=by omega
    first
      | (rw [decide_eq_true q'] at h5;exact absurd h5 (by decide))
      | (simp at h5;omega)
  cases hwl with
  | cons w1 w2 =>
    cases w2
    cases w1 with
    | list ho hall=>exact⟨_,_,ns,rfl,rfl,ho,rK ns _ hall,hlen⟩
theorem T3 (l:OpenLaw) (args:List WData):l.row.toRowW.claim.post args (.bool true) args=true :=
  postW_of (r:=l.row.toRowW) (X:=(true == true))
    (show WShape.has [] (.bool true) .bool=true by first | rfl | decide | simp [WShape.has,WShape.arms,WShape.armsAll])
    (show (WTm.eq .res (.lit (.bool true))).value [] { args:=args,res:=some (.bool true),after:=args }=some (.bool (true == true)) from w_eq_bool (w_res rfl) w_lit) rfl
section
variable {prog:Program}{w:World}{A:Around}{E:Value->Shared->Prop}{s:Shared}{K:Frag}
end
end Att
namespace L2
open PySem PySem.Spec PyProof.Rows
theorem nI:∀ {vs:List Value}{ns:List Int},IntsAre vs ns->Vals (ns.map V.int) vs
  | _,_,.nil=>.nil
  | _,_,.cons n t h=>.cons ⟨t,rfl⟩ (nI h)
noncomputable def Z5r (H:Hp):Prop:=∀ b,H b=none \/ ∃ o xs,H b=some (.frz o (.lst xs))
theorem Z10 {P:Program}{w:World}{K:Frag}{mg mb:Str->Option Value}{CX:CXT}{k:Nat}{fa a:Addr}{fd:FuncData}{x:Str}{sp:Sp}{s₁:Shared}{vs:List Value}{ns:List Int}
    (KX:K.In s₁.heap) (hns:s₁.heap.Ns mainGlobals mg) (hb:s₁.heap.Ns builtinsNs mb) (hbb:∀ x:Str,x ≠ "__name__" -> mb x=bootBuiltins x) (hlim:s₁.heap.NoLimit) (hg:s₁.gens = #[])
    (ha:s₁.heap.get? a=some { cls:=.type "list",data:=.seq vs.toArray }) (hi:IntsAre vs ns) (hl:ns.length <= sizeLine) (hr:Room k callerA)
    (F:∀ base:Heap,K.In base->base.Ns mainGlobals mg->FnOk P w K mg base CX k fa fd [x] sp) (hbind:∀ (s:Shared) (u:Value),BindsTo s fd ⟨[u],[]⟩ [(x,u)])
    (hsp:∀ H:Hp,Z5r H->SqL K H a (ns.map V.int)->sp [.ref a] H (fun v _=>v=.bl true) fun _ _ _=>False)
    (hCX:∀ H e s',CX [] H s₁ (fun _ _ _=>False) e s'->False) :
    codeAny (model P w) callerA (.call (.ref fa) ⟨[.ref a],[]⟩) (fun r s'=>r=.ok (.ret (.bool true)) /\ OldK s₁.heap s'.heap /\ s'.os=s₁.os /\ AllBare s'.gens) s₁:=by
  have rv:=nI hi
  have lenV:=hi.length
  -- from an abstract heap in which nothing but the script may be tracked
  have core:∀ H:Hp,Z5r H->SqL K H a (ns.map V.int)->HOk P w H s₁.heap->(∀ b,H b ≠ none->b=a)->(H a ≠ none->K.lookup a=none) ->
      codeAny (model P w) callerA (.call (.ref fa) ⟨[.ref a],[]⟩) (fun r s'=>r=.ok (.ret (.bool true)) /\ OldK s₁.heap s'.heap /\ s'.os=s₁.os /\ AllBare s'.gens) s₁:=by
    intro H hO hS hok hA hK
    have base_of:∀ {b:Addr}{o:Obj},s₁.heap.get? b=some o->H b=none->(xB s₁.heap H).get? b=some o:=fun e n=>Z1d e n
    have noA:∀ {b:Addr}{o:Obj}{es:Array DictEntry}{ep:Nat},s₁.heap.get? b=some o->o.data=.dict es ep->H b=none:=fun {b o es ep} e d=>by
      cases q:H b with
      | none=>rfl
      | some u =>
        have e':b=a:=hA b (by rw [q];simp)
        subst e'
        rw [ha] at e;cases e
        have d':Data.seq vs.toArray _=Data.dict es ep:=d
        cases d'
    have nsK:∀ {b:Addr}{m:Str->Option Value},s₁.heap.Ns b m->(xB s₁.heap H).Ns b m:=fun {b m} ⟨o,es,ep,e,d,r⟩=>⟨o,es,ep,base_of e (noA e d),d,r⟩
    have hKb:K.In (xB s₁.heap H):=fun b o e=>base_of (KX b o e) (by
      cases q:H b with
      | none=>rfl
      | some u =>
        have e':b=a:=hA b (by rw [q];simp)
        subst e'
        rw [hK (by rw [q];simp)] at e;cases e)
    have hM:Mod K mg (xB s₁.heap H):=⟨hKb,nsK hns,⟨mb,nsK hb,hbb⟩,let ⟨mc,h1,h2⟩:=hlim;⟨mc,nsK h1,h2⟩⟩
    have e0:Env0 P w K mg (xB s₁.heap H) callerA [] s₁ H:=⟨rfl,hM,fun b o e=>Z2z e,Nat.le_of_eq (W0 _ _),trivial,fun b hb=>absurd (show b ∈ ([]:List Addr) from hb) (by simp),hok,.of_eq hg⟩
    refine codeAny_mono ((F _ hKb (nsK hns)).run callerA [] s₁ H ⟨[.ref a],[]⟩ [.ref a] [.ref a] _ _ hr e0 (hbind s₁ (.ref a)) (.cons rfl .nil) (hsp H hO hS)) fun r s' h=>?_
    cases r with
    | error e=>exact (hCX H e s' h).elim
    | ok fl =>
      cases fl with
      | next=>exact False.elim h
      | brk=>exact False.elim h
      | cont=>exact False.elim h
      | ret u =>
        obtain⟨v,H',os,bare,un,hok',r',q⟩:=h
        have q':v=.bl true:=q
        subst q'
        obtain rfl:u=Value.bool true:=r'
        refine⟨rfl,OldK.of_keep fun b o e=>?_,os,bare⟩
        cases q:H b with
        | none=>exact un.keep b o e q (by intro z;exact absurd (show b ∈ ([]:List Addr) from z) (by simp)) (by simp)
        | some u =>
          rcases hO b with z | ⟨ob,xs,z⟩
          . rw [q] at z;cases z
          . have z2:=un.frzs b ob _ z
            obtain⟨e1,_⟩:=hok b _ z
            obtain⟨e2,_⟩:=hok' b _ z2
            rw [e] at e1;cases e1
            exact e2
  cases hk:K.lookup a with
  | some o =>
    -- the script is one of the module's own objects
    have e:=KX a o hk
    rw [ha] at e
    cases e
    refine core (fun _=>none) (fun _=>.inl rfl) (.inr ⟨_,vs.toArray,_,hk,rfl,rfl,rfl,by rw [List.size_toArray,lenV];exact hl,by simpa using rv⟩) (fun b u z=>by have z':(none:Option HO)=some u:=z;cases z') (fun b z=>absurd rfl z) fun z=>absurd rfl z
  | none =>
    refine core (fun b=>if b=a then some (.frz { cls:=.type "list",data:=.seq vs.toArray } (.lst (ns.map V.int))) else none) (fun b=>?_) (.inl (.inr ⟨{ cls:=.type "list",data:=.seq vs.toArray },if_pos rfl⟩)) (fun b u z=>?_) (fun b z=>?_) fun _=>hk
    . by_cases hb:b=a
      . exact .inr ⟨_,_,if_pos hb⟩
      . exact .inl (if_neg hb)
    . by_cases hb:b=a
      . have z':=(if_pos hb).symm.trans z
        cases z'
        subst hb
        exact⟨ha,by rw [List.length_map];exact hl,vs,_,rv,ha⟩
      . have z':=(if_neg hb).symm.trans z
        cases z'
    . by_cases hb:b=a
      . exact hb
      . exact absurd (if_neg hb) z
noncomputable def Z2O (s:Stmt) (j:Nat):Stmt:=match s with
  | .ClassDef _ _ _ body _ _ _ _ _ _ _=>body.getD j (.Pass ⟨0,0,0,0⟩)
  | _=>.Pass ⟨0,0,0,0⟩
noncomputable def aK (s:Stmt):Arguments:=match s with
  | .FunctionDef _ a _ _ _ _ _ _ _ _=>a
  | _=>{ posonlyargs:=[],args:=[],vararg:=none,kwonlyargs:=[],kw_defaults:=[],kwarg:=none,defaults:=[] }
noncomputable def aI (s:Stmt):List Stmt:=match s with
  | .FunctionDef _ _ b _ _ _ _ _ _ _=>b
  | _=>[]
noncomputable def aE (s:Stmt):Scope:=match s with
  | .FunctionDef _ _ _ _ _ _ sc _ _ _=>sc
  | _=>{ kind:=.function,names:=[],isGenerator:=false,isCoroutine:=false }
noncomputable abbrev CX0:CXT:=fun _ _ _ _ _ _=>False
noncomputable abbrev E0:XK:=fun _ _ _=>False
theorem Z3j {X:Cx}:tY CX0 X E0:=fun _ _ _ _ _ _ _ h=>h.elim
structure Fun (K:Frag) (x qual:Str) (st:Stmt) (f:Addr) (fd:FuncData):Prop where
  ex:∃ (oc:Value) (od:Option Addr) (kV doc pm:Value) (an:Option Addr) (cdv ct:Value) (osl:Array (Option Value)),
    fd=fnOf x qual (aK st) (aI st) (aE st) .none kV doc pm an cdv ct /\ K.lookup f=some ⟨oc,od,.func fd,osl⟩ /\ codeIn K cdv qual=true
  kp:keepIn K (.ref f)=true
section
variable {P:Program}{w:World}{K:Frag}{mg:Str->Option Value}{base:Heap}
theorem Fun.ok {x qual:Str}{st:Stmt}{f:Addr}{fd:FuncData}{N ps:List Str}{k:Nat}{sp:Sp}(F:Fun K x qual st f fd) (S:aS N ps (aE st)) (len:∀ vs H Q E,sp vs H Q E->vs.length=ps.length)
    (hbody:∀ (cdv:Value) (A:Around) (outer:List Env) (s:Shared) (H:Hp) (vs:List V) (Q:VK) (E:XK),Room k (A.deeper (envOfC qual (aE st) s.heap.objs.size f cdv))->sp vs H Q E ->
      ∃ t,PSs (zT CX0 P w K mg base N qual (aE st) f cdv A outer s H E).nox (aI st) t /\ t { nx:=fun _ H'=>Q .non H',rt:=Q } (start N vs) H):FnOk P w K mg base CX0 (k + 1) f fd ps sp:=by
  obtain⟨oc,od,kV,doc,pm,an,cdv,ct,osl,rfl,lk,hcd⟩:=F.ex
  refine Z1n lk hcd S len fun A outer s H vs Q E hr hsp=>?_
  obtain⟨t,h,q⟩:=hbody cdv A outer s H vs Q E hr hsp
  exact⟨t,h.nox,q⟩
theorem Fun.binds {x qual:Str}{st:Stmt}{f:Addr}{fd:FuncData}{ps:List Str}(F:Fun K x qual st f fd)
    (h:∀ (kV doc pm:Value) (an:Option Addr) (cdv ct:Value) (us:List Value),us.length=ps.length->bindArgs (fnOf x qual (aK st) (aI st) (aE st) .none kV doc pm an cdv ct) ⟨us,[]⟩=pure (ps.zip us)):Binds K fd ps []:=by
  obtain⟨oc,od,kV,doc,pm,an,cdv,ct,osl,rfl,lk,hcd⟩:=F.ex
  exact .all (h kV doc pm an cdv ct)
end
theorem gJ {A:Around}{k:Nat}(hr:Room k A):A.units + 1 < cLine:=Nat.lt_of_le_of_lt (Nat.add_le_add_left (by decide:1 <= 64) _) hr.units
theorem eJ {n:Nat}(h:n <= 1000):n < sizeLine:=Nat.lt_of_le_of_lt h (by decide)
section
variable {X:Cx}
theorem pv (i:Nat) {x:Str}{pos:Pos}(hN:X.N[i]? = some x:=by rfl) (hv:Vis X.env.scope x:=by first | exact Or.inl rfl | exact Or.inr (Or.inl rfl) | exact Or.inr (Or.inr rfl)) (hd:(x == ("__debug__" : Str))=false:=by decide)
    (hcd:(x == ("__classdict__" : Str))=false:=by decide):PE X (.Name x pos) (wG i):=jA hN hv hd hcd
end
theorem E7 {A B:Prop}(h:B):if false=true then A else B:=by
  rw [if_neg Bool.false_ne_true]
  exact h
theorem E6 {A B:Prop}(h:A):if true=true then A else B:=by
  rw [if_pos rfl]
  exact h
noncomputable def Same (H H':Hp):Prop:=∀ b o,H b=some o->H' b=some o
theorem Same.refl (H:Hp):Same H H:=fun _ _ h=>h
theorem Same.trans {H H1 H2:Hp}(a:Same H H1) (b:Same H1 H2):Same H H2:=fun c o h=>b c o (a c o h)
theorem Same.free {H H':Hp}(e:Same H H') {l:Addr}(h:H' l=Option.none):H l=Option.none:=by
  cases q:H l with
  | none=>rfl
  | some o =>
    rw [e l o q] at h
    cases h
theorem Same.seq {K:Frag}{H H':Hp}{a:Addr}{xs:List V}(e:Same H H') (h:SqL K H a xs):SqL K H' a xs:=by
  rcases h with (h | ⟨o,h⟩) | h
  . exact .inl (.inl (e _ _ h))
  . exact .inl (.inr ⟨o,e _ _ h⟩)
  . exact .inr h
section
variable {κ:Type}[DecidableEq κ]
noncomputable def kZ (kvs:List (κ × V)) (k:κ):Option V:=(kvs.find? fun kv=>decide (kv.1=k)).map (·.2)
noncomputable def pA (kvs:List (κ × V)) (k:κ) (v:V):List (κ × V) :=
  if (kvs.any fun kv=>decide (kv.1=k))=true then kvs.map (fun kv=>if kv.1=k then (kv.1,v) else kv) else kvs ++ [(k,v)]
noncomputable def Z3p (kvs:List (κ × V)) (k:κ):List (κ × V):=kvs.filter fun kv=>decide (kv.1 ≠ k)
theorem rX {k:κ}:kZ ([]:List (κ × V)) k=none:=rfl
theorem kY {p:κ × V}{r:List (κ × V)}{k:κ}(e:p.1=k):kZ (p :: r) k=some p.2:=by simp [kZ,List.find?_cons,e]
theorem jW {p:κ × V}{r:List (κ × V)}{k:κ}(e:¬ p.1=k):kZ (p :: r) k=kZ r k:=by simp [kZ,List.find?_cons,e]
theorem xZ (k:κ):∀ kvs:List (κ × V),(kvs.any fun kv=>decide (kv.1=k))=(kZ kvs k).isSome
  | []=>rfl
  | p :: r=>by
    rw [List.any_cons]
    by_cases e:p.1=k
    . simp only [kY e,decide_eq_true e,Bool.true_or,Option.isSome_some]
    . rw [jW e,decide_eq_false e,Bool.false_or];exact xZ k r
theorem qT (kvs:List (κ × V)) (k:κ) (v:V):(pA kvs k v).length <= kvs.length + 1:=by
  unfold pA
  split
  . rw [List.length_map];omega
  . rw [List.length_append,List.length_cons,List.length_nil];omega
theorem RelO.isSome_eq {o:Option V}{u:Option Value}(r:RelO o u):o.isSome=u.isSome:=by
  cases o with
  | none=>cases u with
    | none=>rfl
    | some _=>exact (show False from r).elim
  | some _=>cases u with
    | none=>exact (show False from r).elim
    | some _=>rfl
theorem RelO.getD {o:Option V}{u:Option Value}{d:V}{d':Value}(r:RelO o u) (rd:RelV d d'):RelV (o.getD d) (u.getD d'):=by
  cases o with
  | none=>cases u with
    | none=>exact rd
    | some _=>exact (show False from r).elim
  | some _=>cases u with
    | none=>exact (show False from r).elim
    | some _=>exact r
theorem KV.val {kvs:List (κ × V)}{vs:List (κ × Value)}(r:KV kvs vs) (k:κ):RelO (kZ kvs k) (valueAt vs k):=by
  unfold KV at r
  induction r with
  | nil=>exact True.intro
  | @cons p q ps qs h t ih =>
    obtain⟨h1,h2⟩:=h
    by_cases e:p.1=k
    . have e':q.1=k:=h1.symm.trans e
      have b:valueAt (q :: qs) k=some q.2:=by simp [valueAt,List.find?_cons,e']
      rw [kY e,b];exact h2
    . have e':¬ q.1=k:=fun z=>e (h1.trans z)
      have b:valueAt (q :: qs) k=valueAt qs k:=by simp [valueAt,List.find?_cons,e']
      rw [jW e,b];exact ih
theorem KV.any {kvs:List (κ × V)}{vs:List (κ × Value)}(r:KV kvs vs) (k:κ):(kvs.any fun kv=>decide (kv.1=k))=vs.any fun kv=>decide (kv.1=k):=by
  unfold KV at r
  induction r with
  | nil=>rfl
  | cons h t ih=>rw [List.any_cons,List.any_cons,ih,h.1]
theorem KV.repl {kvs:List (κ × V)}{vs:List (κ × Value)}(r:KV kvs vs) (k:κ) {y:V}{u:Value}(ry:RelV y u) :
    KV (kvs.map fun kv=>if kv.1=k then (kv.1,y) else kv) (vs.map fun kv=>if kv.1=k then (kv.1,u) else kv):=by
  unfold KV at r ⊢
  induction r with
  | nil=>exact .nil
  | @cons p q ps qs h t ih =>
    rw [List.map_cons,List.map_cons]
    refine .cons ?_ ih
    obtain⟨h1,h2⟩:=h
    by_cases e:p.1=k
    . rw [if_pos e,if_pos (h1.symm.trans e)];exact⟨h1,ry⟩
    . rw [if_neg e,if_neg (fun z=>e (h1.trans z))];exact⟨h1,h2⟩
theorem KV.put {kvs:List (κ × V)}{vs:List (κ × Value)}(r:KV kvs vs) (k:κ) {y:V}{u:Value}(ry:RelV y u):KV (pA kvs k y) (stored vs k u):=by
  unfold pA stored
  rw [r.any k]
  by_cases e:(vs.any fun kv=>decide (kv.1=k))=true
  . rw [if_pos e,if_pos e];exact r.repl k ry
  . rw [if_neg e,if_neg e];exact Paired.snoc r ⟨rfl,ry⟩
theorem KV.drop {kvs:List (κ × V)}{vs:List (κ × Value)}(r:KV kvs vs) (k:κ):KV (Z3p kvs k) (without vs k):=by
  unfold KV at r ⊢
  unfold Z3p without
  induction r with
  | nil=>exact .nil
  | @cons p q ps qs h t ih =>
    obtain⟨h1,h2⟩:=h
    rw [List.filter_cons,List.filter_cons]
    by_cases e:p.1=k
    . have a:¬ decide (p.1 ≠ k)=true:=by simp [e]
      have b:¬ decide (q.1 ≠ k)=true:=by simp [h1.symm.trans e]
      rw [if_neg a,if_neg b];exact ih
    . have e':¬ q.1=k:=fun z=>e (h1.trans z)
      have a:decide (p.1 ≠ k)=true:=by simp [e]
      have b:decide (q.1 ≠ k)=true:=by simp [e']
      rw [if_pos a,if_pos b];exact .cons ⟨h1,h2⟩ ih
theorem KV.keys {kvs:List (κ × V)}{vs:List (κ × Value)}(r:KV kvs vs):kvs.map (·.1)=vs.map (·.1):=by
  unfold KV at r
  induction r with
  | nil=>rfl
  | cons h t ih=>rw [List.map_cons,List.map_cons,ih,h.1]
theorem KV.length {kvs:List (κ × V)}{vs:List (κ × Value)}(r:KV kvs vs):kvs.length=vs.length:=Paired.length r
end
theorem Z17 {P:Program}{w:World}{k:Key}{u:Value}(r:RelV (kV k) u):(dU P w).is k u=true:=by
  cases k with
  | inl i=>obtain⟨t,e⟩:=(show ∃ t,u=Value.int i t from r);subst e;exact yZ P w i t
  | inr x=>obtain⟨t,e⟩:=(show ∃ t,u=Value.str x t from r);subst e;exact yY P w x t
theorem qD {P:Program}{w:World}:∀ {ks:List Key}{us:List Value},Vals (ks.map kV) us->ItemsAre (dU P w) ks us
  | [],_,r=>by rw [List.map_nil] at r;cases r;exact .nil
  | k :: ks,_,r=>by
    rw [List.map_cons] at r
    cases r with
    | cons h t=>exact .cons (Z17 h) (qD t)
noncomputable abbrev KT (H:Hp):List (List Key × V)->List (List Key × Addr × Value)->Prop:=Paired fun p q=>p.1=q.1 /\ H q.2.1=some (.tup (p.1.map kV)) /\ RelV p.2 q.2.2
theorem KT.val {H:Hp}{kvs:List (List Key × V)}{xs:List (List Key × Addr × Value)}(r:KT H kvs xs) (k:List Key):RelO (kZ kvs k) ((atKey xs k).map (·.2)):=by
  induction r with
  | nil=>exact True.intro
  | @cons p q ps qs h t ih =>
    obtain⟨h1,_,h2⟩:=h
    by_cases e:p.1=k
    . have e':q.1=k:=h1.symm.trans e
      have b:atKey (q :: qs) k=some q.2:=by simp [atKey,List.find?_cons,e']
      rw [kY e,b];exact h2
    . have e':¬ q.1=k:=fun z=>e (h1.trans z)
      have b:atKey (q :: qs) k=atKey qs k:=by simp [atKey,List.find?_cons,e']
      rw [jW e,b];exact ih
theorem KT.repl {H:Hp}{kvs:List (List Key × V)}{xs:List (List Key × Addr × Value)}(r:KT H kvs xs) (k:List Key) {y:V}{u:Value}(ry:RelV y u) :
    KT H (kvs.map fun kv=>if kv.1=k then (kv.1,y) else kv) (xs.map (putAt k u)):=by
  induction r with
  | nil=>exact .nil
  | @cons p q ps qs h t ih =>
    rw [List.map_cons,List.map_cons]
    refine .cons ?_ ih
    obtain⟨h1,h2,h3⟩:=h
    unfold putAt
    by_cases e:p.1=k
    . rw [if_pos e,if_pos (h1.symm.trans e)];exact⟨h1,h2,ry⟩
    . rw [if_neg e,if_neg (fun z=>e (h1.trans z))];exact⟨h1,h2,h3⟩
theorem KT.put {H:Hp}{kvs:List (List Key × V)}{xs:List (List Key × Addr × Value)}(r:KT H kvs xs) (k:List Key) {b:Addr}{y:V}{u:Value}(hb:H b=some (.tup (k.map kV))) (ry:RelV y u) :
    KT H (pA kvs k y) (storedH xs k b u):=by
  have e:(kvs.any fun kv=>decide (kv.1=k))=(atKey xs k).isSome:=by
    rw [xZ,(r.val k).isSome_eq,Option.isSome_map]
  unfold pA storedH
  rw [e]
  by_cases q:(atKey xs k).isSome=true
  . rw [if_pos q,if_pos q];exact r.repl k ry
  . rw [if_neg q,if_neg q];exact Paired.snoc r ⟨rfl,hb,ry⟩
theorem KT.keeps {H H':Hp}{kvs:List (List Key × V)}{xs:List (List Key × Addr × Value)}(r:KT H kvs xs) (ht:∀ b ys,H b=some (.tup ys)->H' b=some (.tup ys)):KT H' kvs xs :=
  Paired.mapP r fun _ _ z=>⟨z.1,ht _ _ z.2.1,z.2.2⟩
section
variable {P:Program}{w:World}{H:Hp}{h:Heap}{a:Addr}
theorem Z3g {u:HO}(ok:HOk P w H h) (e:Rd H a u):ObjOk P w H h a u:=e.ok ok
theorem Z3q {kvs:List (Key × V)}(ok:HOk P w H h) (e:Rd H a (.dK kvs)):kvs.length <= sizeLine /\ (a == sysModules)=false /\ ∃ vs,KV kvs vs /\ h.DictOf (dU P w) a vs :=
  show ObjOk P w H h a (.dK kvs) from Z3g ok e
theorem Z3r {kvs:List (Key × V)}(ok:HOk P w H h) (e:H a=some (.dK kvs)):kvs.length <= sizeLine /\ (a == sysModules)=false /\ ∃ vs,KV kvs vs /\ h.DictOf (dU P w) a vs:=Z3q ok (.inl e)
theorem E5 {ks:List Key}(ok:HOk P w H h) (e:H a=some (.tup (ks.map kV))):(tupleKind (dU P w)).is h ks a:=by
  obtain⟨_,its,r,o,h1,h2,n,h3⟩:=(show ObjOk P w H h a (.tup (ks.map kV)) from ok a _ e)
  exact⟨o,its.toArray,n,h1,h2,h3,by simpa using qD r⟩
theorem vS {kvs:List (List Key × V)}(ok:HOk P w H h) (e:Rd H a (.dT kvs)):kvs.length <= sizeLine /\ (a == sysModules)=false /\
    ∃ xs,KT H kvs xs /\ h.DictOfH (tupleKind (dU P w)) a xs:=by
  obtain⟨z,y,xs,r,o,es,ep,h1,h2,h3,h4,h5⟩:=(show ObjOk P w H h a (.dT kvs) from Z3g ok e)
  refine⟨z,y,xs,r,o,es,ep,h1,h2,h3,h4,fun x hx=>?_,h5⟩
  have all:∀ {l:List (List Key × V)}{m:List (List Key × Addr × Value)},KT H l m->∀ x ∈ m,(tupleKind (dU P w)).is h x.1 x.2.1:=by
    intro l m q
    induction q with
    | nil=>intro x hx;exact nomatch hx
    | @cons p q ps qs hq t ih =>
      intro x hx
      rcases List.mem_cons.mp hx with e | hx
      . subst e
        exact E5 ok (by rw [<- hq.1];exact hq.2.1)
      . exact ih x hx
  exact all r x hx
theorem Z5l {kvs:List (List Key × V)}(ok:HOk P w H h) (e:H a=some (.dT kvs)):kvs.length <= sizeLine /\ (a == sysModules)=false /\
    ∃ xs,KT H kvs xs /\ h.DictOfH (tupleKind (dU P w)) a xs:=vS ok (.inl e)
end
noncomputable def DGet (H:Hp) (a:Addr) (y:V) (r:Option V):Prop :=
  (∃ kvs k,Rd H a (.dK kvs) /\ y=kV k /\ r=kZ kvs k) \/ ∃ kvs k b,Rd H a (.dT kvs) /\ y=.ref b /\ H b=some (.tup (k.map kV)) /\ r=kZ kvs k
noncomputable def DPut (H:Hp) (a:Addr) (y v:V) (H':Hp):Prop :=
  (∃ kvs k,H a=some (.dK kvs) /\ y=kV k /\ kvs.length < sizeLine /\ H'=upd H a (.dK (pA kvs k v))) \/
  ∃ kvs k b,H a=some (.dT kvs) /\ y=.ref b /\ H b=some (.tup (k.map kV)) /\ kvs.length < sizeLine /\ H'=upd H a (.dT (pA kvs k v))
theorem DGet.k {H:Hp}{a:Addr}{kvs:List (Key × V)}{k:Key}(e:H a=some (.dK kvs)):DGet H a (kV k) (kZ kvs k):=.inl ⟨kvs,k,.inl e,rfl,rfl⟩
theorem DGet.t {H:Hp}{a b:Addr}{kvs:List (List Key × V)}{k:List Key}(e:H a=some (.dT kvs)) (eb:H b=some (.tup (k.map kV))):DGet H a (.ref b) (kZ kvs k):=.inr ⟨kvs,k,b,.inl e,rfl,eb,rfl⟩
theorem DPut.k {H:Hp}{a:Addr}{kvs:List (Key × V)}{k:Key}{v:V}(e:H a=some (.dK kvs)) (hl:kvs.length < sizeLine):DPut H a (kV k) v (upd H a (.dK (pA kvs k v))):=.inl ⟨kvs,k,e,rfl,hl,rfl⟩
theorem DPut.t {H:Hp}{a b:Addr}{kvs:List (List Key × V)}{k:List Key}{v:V}(e:H a=some (.dT kvs)) (eb:H b=some (.tup (k.map kV))) (hl:kvs.length < sizeLine) :
    DPut H a (.ref b) v (upd H a (.dT (pA kvs k v))):=.inr ⟨kvs,k,b,e,rfl,eb,hl,rfl⟩
section
variable {X:Cx}{pins:List (Addr × Obj)}{σ:St}{H:Hp}{s:Shared}{a:Addr}{y v:V}{u r:Value}{o:Option V}{A:Around}{E:Value->Shared->Prop}
theorem Inv.big (I:Inv X pins σ H s):sysModules < s.heap.objs.size:=by
  have h:mainGlobals < s.heap.objs.size:=(I.mod.glob.keeps I.bk).lt
  exact Nat.lt_trans (by decide) h
theorem Z5P {Q:Value->Shared->Prop}(hu:A.units + 1 < cLine) (I:Inv X pins σ H s) (g:DGet H a y o) (ry:RelV y u) (h:∀ s',Inv X pins σ H s'->Q (.bool o.isSome) s') :
    wpAny (model X.prog X.w) A (compareOp .In u (.ref a)) Q E s:=by
  rcases g with ⟨kvs,k,e,ey,l⟩ | ⟨kvs,k,b,e,ey,eb,l⟩
  . subst ey
    obtain⟨z,hd,vs,rel,dd⟩:=Z3q I.hok e
    refine wpAny_in_of (Z17 ry) hd dd.mapOf ?_
    rw [<- (rel.val k).isSome_eq,<- l]
    exact h _ (I.tok _)
  . subst ey
    cases (show u=Value.ref b from ry)
    obtain⟨z,hd,xs,rel,dd⟩:=vS I.hok e
    refine wpAny_in_heap (tupleKind_room_in1 hu) (E5 I.hok eb) hd dd ?_
    have q:=(rel.val k).isSome_eq
    rw [Option.isSome_map] at q
    rw [<- q,<- l]
    exact h _ (I.tok _)
theorem rR {h':Heap}{t':Nat}{ob:HO}(I:Inv X pins σ H s) (mu:Mut (H a)) (hs:Heap.SameBut a s.heap h') (he:∃ q,h'.get? a=some q) (new:ObjOk X.prog X.w (upd H a ob) h' a ob) :
    Inv X pins σ (upd H a ob) { s with heap:=h',toks:=t' } :=
  I.write (x:=a) (e:=a) mu (.inl rfl) (fun b q hb z=>(hs.2 b hb).trans z) he new
theorem Z4l {P:Program}{w:World}{H':Hp}{h':Heap}{kvs:List (Key × V)}{vs:List (Key × Value)}(z:kvs.length <= sizeLine) (hd:(a == sysModules)=false) (rel:KV kvs vs) (dd:h'.DictOf (dU P w) a vs) :
    ObjOk P w H' h' a (.dK kvs):=⟨z,hd,vs,rel,dd⟩
theorem X3 {H':Hp}{Q:Unit->Shared->Prop}(hu:A.units + 1 < cLine) (I:Inv X pins σ H s) (g:DPut H a y v H') (ry:RelV y u) (rv:RelV v r) (h:∀ s',Inv X pins σ H' s'->Q () s') :
    wpAny (model X.prog X.w) A (setItem (.ref a) u r) Q E s:=by
  rcases g with ⟨kvs,k,e,ey,l,eH⟩ | ⟨kvs,k,b,e,ey,eb,l,eH⟩
  . subst ey eH
    obtain⟨z,hd,vs,rel,dd⟩:=Z3r I.hok e
    have hz:vs.length <= sizeLine:=by rw [<- rel.length];exact z
    have hl:(pA kvs k v).length <= sizeLine:=by have:=qT kvs k v;omega
    refine wpAny_setItem_pairs (hsz:=hz) (Z17 ry) dd fun h' dd' hs=>h _ ?_
    have he:∃ q,h'.get? a=some q:=let ⟨q,_,_,hq,_⟩:=dd';⟨q,hq⟩
    exact rR I (by rw [e];exact True.intro) hs he (Z4l hl hd (rel.put k rv) dd')
  . subst ey eH
    cases (show u=Value.ref b from ry)
    obtain⟨z,hd,xs,rel,dd⟩:=Z5l I.hok e
    have hz:xs.length <= sizeLine:=by rw [<- Paired.length rel];exact z
    have hl:(pA kvs k v).length <= sizeLine:=by have:=qT kvs k v;omega
    refine wpAny_setItem_heap (hsz:=hz) (tupleKind_room_in1 hu) (E5 I.hok eb) dd fun h' dd' hs=>h _ ?_
    obtain⟨q,es,ep,hq,h2,h3,h4,_,h5⟩:=dd'
    refine rR I (by rw [e];exact True.intro) hs ⟨q,hq⟩ ⟨hl,hd,_,(rel.put k eb rv).keeps fun c ys ec=>?_,q,es,ep,hq,h2,h3,h4,h5⟩
    rw [aX (Z55 ec e (fun z=>nomatch z))]
    exact ec
end
section
variable {X:Cx}{pins:List (Addr × Obj)}{σ:St}{H:Hp}{s:Shared}{a:Addr}{kvs:List (Key × V)}{k:Key}{u:Value}{A:Around}{E:Value->Shared->Prop}
end
noncomputable def Z4p (i:Expr):Prop:=∀ ov iv,subscripted i false ov iv=operate [ov,iv] (getItem ov iv)
theorem Z1U {prog:Program}{w:World}{A:Around}{E:Value->Shared->Prop}{s:Shared}{env:Env}{value slice:Expr}{pos:Pos}{T id:String}{Q:Value->Shared->Prop}
    (hl:typeLookup (.type T) "__getitem__" = pure (some (.builtin id))) (hs:Z4p slice)
    (h:wpAny (model prog w) A (eval value env) (fun o s₁=>wpAny (model prog w) A (eval slice env) (fun i s₂=>s₂.TypeIs o T /\ wpAny (model prog w) A (getItem o i) Q E s₂) E s₁) E s) :
    wpAny (model prog w) A (eval (.Subscript value slice pos) env) Q E s:=by
  refine Subscript_ (wpAny_mono h (fun o s₁ h₁=>wpAny_mono h₁ (fun i s₂ h₂=>?_) fun _ _ x=>x) fun _ _ x=>x)
  obtain⟨hT,h₂⟩:=h₂
  unfold subscriptTail
  refine wpAny_bind ?_
  rw [getitemInPython_of_ne hT.not_modules]
  refine wpAny_bind (wpAny_specialOf hT hl ?_)
  have fin:wpAny (model prog w) A (subscripted slice false o i) (fun r s₃=>wpAny (model prog w) A (letTemporaryGo value o r >>= fun _=>pure r) Q E s₃) E s₂:=by
    rw [hs o i]
    exact wpAny_operating (wpAny_mono h₂ (fun r s₃ h₃=>wpAny_bind (wpAny_letTemporaryGo (wpAny_pure h₃))) fun _ _ x=>x)
  first
    | exact wpAny_pure (wpAny_bind fin)
    | exact wpAny_bind (wpAny_pure (wpAny_bind fin))
    | exact wpAny_bind fin
noncomputable def Z5A (ty td:TE):TE:=fun σ H Q=>ty σ H fun y H1=>td σ H1 fun x H2=>∃ a o,x=.ref a /\ DGet H2 a y o /\ Q (.bl o.isSome) H2
noncomputable def Z4L (td ty tv:TE):TS:=fun D σ H=>tv σ H fun v H1=>td σ H1 fun x H2=>ty σ H2 fun y H3=>∃ a H4,x=.ref a /\ DPut H3 a y v H4 /\ D.nx σ H4
section
variable {X:Cx}{o i e value:Expr}{pos pos' tpos:Pos}{td ty tv:TE}
theorem Z3Z (hu:X.A.units + 1 < cLine) (hi:PE X i ty) (ho:PE X o td):PC X .In i o (Z5A ty td):=by
  intro pins s σ H Q I h
  refine thn (hi pins s σ H _ I h) fun iv s1 ⟨y,H1,I1,ry,q1⟩=>thn (ho pins s1 σ H1 _ I1 q1) fun u s2 ⟨x,H2,I2,rx,a,ov,ex,g,q2⟩=>?_
  subst ex
  obtain rfl:u=Value.ref a:=rx
  exact Z5P hu I2 g ry fun s3 I3=>⟨.bl ov.isSome,H2,I3,rfl,q2⟩
theorem Z2n (hu:X.A.units + 1 < cLine) (ho:PE X o td) (hi:PE X i ty) (hv:PE X value tv) (hs:swapsWith value (some (.Subscript o i pos')) pos.line X.env=pure false) :
    PS X (.Assign [.Subscript o i pos'] value pos) (Z4L td ty tv):=by
  intro pins s σ H D I h
  refine wpAny_Assign_Subscript (thn (hv pins s σ H _ I h) fun r s1 ⟨v,H1,I1,rv,q1⟩=>thn (ho pins s1 σ H1 _ I1 q1) fun u s2 ⟨x,H2,I2,rx,q2⟩=>thn (hi pins s2 σ H2 _ I2 q2) fun iv s3 ⟨y,H3,I3,ry,a,H4,ex,g,q3⟩=>?_) hs
  subst ex
  obtain rfl:u=Value.ref a:=rx
  exact X3 hu I3 g ry rv fun s4 I4=>⟨σ,H4,I4,q3⟩
end
theorem Z1y {P:Program}{w:World}{H:Hp}(h:Heap) (hb:sysModules < h.objs.size):ObjOk P w H (h.push { cls:=.type "dict",data:=.dict #[] }) h.objs.size (.dK []) :=
  ⟨Nat.zero_le _,beq_eq_false_iff_ne.mpr (Ne.symm (Nat.ne_of_lt hb)),[],.nil,Heap.DictOf.new h⟩
noncomputable def Z3z:TE:=fun _ H Q=>∀ p,H p=none->Q (.ref p) (upd H p (.dK []))
section
variable {X:Cx}{pos:Pos}
theorem pe_dnewK:PE X (.Dict [] [] pos) Z3z:=fun pins s σ H Q I h =>
  wpAny_Dict_empty ⟨.ref s.heap.objs.size,_,I.laid (a:=s.heap.objs.size) (o:=.dK []) (t':=s.toks) (fun _ _ q=>Heap.get?_push_of_some _ q) (Nat.le_refl _) (Z1y s.heap I.big),rfl,h _ (I.hok.fresh (Nat.le_refl _))⟩
end
structure M1 (X:Cx) (o:Expr) (m:Str) (apos:Pos) (e:Expr) (cpos:Pos):Prop where
  base:attributeBase o m X.env (eval o X.env)=eval o X.env
  few:((backTo cpos (starEach [e] X.env)).all (fun x=>!x.1) && (backToKw cpos (keywordEach [] X.env)).all (fun x=>x.1.isSome)
    && decide (([e]:List Expr).length + ([]:List Keyword).length + (if ([]:List Keyword).isEmpty then 0 else 1) < 30))=true
  line:(apos.endLine == cpos.line)=true
  trees:backTo cpos (starEach [e] X.env)=[(false,eval e X.env)]
structure M2 (X:Cx) (o:Expr) (m:Str) (apos:Pos) (e f:Expr) (cpos:Pos):Prop where
  base:attributeBase o m X.env (eval o X.env)=eval o X.env
  few:((backTo cpos (starEach [e,f] X.env)).all (fun x=>!x.1) && (backToKw cpos (keywordEach [] X.env)).all (fun x=>x.1.isSome)
    && decide (([e,f]:List Expr).length + ([]:List Keyword).length + (if ([]:List Keyword).isEmpty then 0 else 1) < 30))=true
  line:(apos.endLine == cpos.line)=true
  trees:backTo cpos (starEach [e,f] X.env)=[(false,eval e X.env),(false,eval f X.env)]
section
variable {X:Cx}{pins:List (Addr × Obj)}{σ:St}{H:Hp}{s:Shared}{a:Addr}{y d:V}{u r:Value}{o:Option V}{A:Around}{E:Value->Shared->Prop}
end
section
variable {X:Cx}{o e f:Expr}{apos cpos:Pos}{td ty tx:TE}
end
section
variable {X:Cx}{pins:List (Addr × Obj)}{σ:St}{H:Hp}{s:Shared}{a:Addr}{kvs:List (Key × V)}{A:Around}{E:Value->Shared->Prop}
end
section
variable {X:Cx}{pins:List (Addr × Obj)}{σ:St}{H:Hp}{s:Shared}{a:Addr}{y:V}{u:Value}{A:Around}{E:Value->Shared->Prop}
end
noncomputable abbrev Ent:=List Key × Addr × V
noncomputable abbrev KE:List Ent->List (List Key × Addr × Value)->Prop:=Paired fun p q=>p.1=q.1 /\ p.2.1=q.2.1 /\ RelV p.2.2 q.2.2
noncomputable def kP (es:List Ent) (k:List Key):Option V:=(es.find? fun e=>decide (e.1=k)).map (·.2.2)
theorem yA {p:Ent}{r:List Ent}{k:List Key}(e:p.1=k):kP (p :: r) k=some p.2.2:=by simp [kP,List.find?_cons,e]
theorem yB {p:Ent}{r:List Ent}{k:List Key}(e:¬ p.1=k):kP (p :: r) k=kP r k:=by simp [kP,List.find?_cons,e]
theorem KE.val {es:List Ent}{xs:List (List Key × Addr × Value)}(r:KE es xs) (k:List Key):RelO (kP es k) ((atKey xs k).map (·.2)):=by
  induction r with
  | nil=>exact True.intro
  | @cons p q ps qs h t ih =>
    obtain⟨h1,_,h2⟩:=h
    by_cases e:p.1=k
    . have e':q.1=k:=h1.symm.trans e
      have b:atKey (q :: qs) k=some q.2:=by simp [atKey,List.find?_cons,e']
      rw [yA e,b];exact h2
    . have e':¬ q.1=k:=fun z=>e (h1.trans z)
      have b:atKey (q :: qs) k=atKey qs k:=by simp [atKey,List.find?_cons,e']
      rw [yB e,b];exact ih
theorem KE.snoc {k:List Key}{b:Addr}{v:V}{u:Value}(rv:RelV v u):∀ {es:List Ent}{xs:List (List Key × Addr × Value)},KE es xs->KE (es ++ [(k,b,v)]) (xs ++ [(k,b,u)])
  | _,_,.nil=>.cons ⟨rfl,rfl,rv⟩ .nil
  | _,_,.cons h t=>.cons h (KE.snoc rv t)
section
variable {X:Cx}{pins:List (Addr × Obj)}{σ:St}{H:Hp}{s:Shared}{a b:Addr}{y v:V}{u r:Value}{o:Option V}{A:Around}{E:Value->Shared->Prop}{es:List Ent}{k:List Key}{ep:Nat}
noncomputable abbrev mJ (K:Frag) (H:Hp) (es:List Ent):Prop:=∀ e ∈ es,SqT K H e.2.1 (e.1.map kV)
theorem zS (I:Inv X pins σ H s) (h:SqT X.K H b (k.map kV)):(tupleKind (dU X.prog X.w)).is s.heap k b:=by
  obtain⟨its,r,⟨o,h1,h2,n,h3⟩,_⟩:=I.tuple h
  exact⟨o,its.toArray,n,h1,h2,h3,by simpa using qD r⟩
theorem KE.is (I:Inv X pins σ H s):∀ {es:List Ent}{xs:List (List Key × Addr × Value)},KE es xs->mJ X.K H es->∀ x ∈ xs,(tupleKind (dU X.prog X.w)).is s.heap x.1 x.2.1
  | _,_,.nil,_,x,hx=>by cases hx
  | e :: es,q :: xs,.cons h t,ht,x,hx=>by
    rcases List.mem_cons.mp hx with z | z
    . have:=ht e List.mem_cons_self
      rw [h.1,h.2.1] at this
      rw [z];exact zS I this
    . exact KE.is I t (fun e he=>ht e (List.mem_cons_of_mem _ he)) x z
theorem X1 (I:Inv X pins σ H s) (e:Rd H a (.dE es ep)) (ht:mJ X.K H es):es.length <= sizeLine /\ (a == sysModules)=false /\ ∃ xs,KE es xs /\ s.heap.DictOfH (tupleKind (dU X.prog X.w)) a xs:=by
  obtain⟨z,y,xs,r,o,es',h1,h2,h3,h4,h5⟩:=(show ObjOk X.prog X.w H s.heap a (.dE es ep) from e.ok I.hok)
  exact⟨z,y,xs,r,o,es',ep,h1,h2,h3,h4,KE.is I r ht,h5⟩
noncomputable def Y9 (K:Frag) (H:Hp) (a:Addr) (y:V) (r:Option V):Prop:=∃ es ep k b,Rd H a (.dE es ep) /\ mJ K H es /\ y=.ref b /\ SqT K H b (k.map kV) /\ r=kP es k
theorem X2 {Q:Value->Shared->Prop}(hu:A.units + 1 < cLine) (I:Inv X pins σ H s) (g:Y9 X.K H a y (some v)) (ry:RelV y u) (h:∀ w' s',Inv X pins σ H s'->RelV v w'->Q w' s') :
    wpAny (model X.prog X.w) A (getItem (.ref a) u) Q E s:=by
  obtain⟨es,ep,k,b,e,ht,rfl,hb,l⟩:=g
  cases (show u=Value.ref b from ry)
  obtain⟨z,hd,xs,rel,dd⟩:=X1 I e ht
  obtain⟨w',hw,rw'⟩:=RelO.some_of (v:=v) (o:=(atKey xs k).map (·.2)) (by rw [l];exact rel.val k)
  obtain⟨p,hp,hp2⟩:=Option.map_eq_some_iff.mp hw
  refine wpAny_getItem_heap (tupleKind_room_in1 hu) (zS I hb) dd hp ?_
  rw [hp2]
  exact h w' _ (I.tok _) rw'
theorem Z31 {Q:Value->Shared->Prop}(hu:A.units + 1 < cLine) (I:Inv X pins σ H s) (g:Y9 X.K H a y o) (ry:RelV y u) (h:∀ s',Inv X pins σ H s'->Q (.bool (!o.isSome)) s') :
    wpAny (model X.prog X.w) A (compareOp .NotIn u (.ref a)) Q E s:=by
  obtain⟨es,ep,k,b,e,ht,rfl,hb,l⟩:=g
  cases (show u=Value.ref b from ry)
  obtain⟨z,hd,xs,rel,dd⟩:=X1 I e ht
  refine wpAny_notIn_heap (tupleKind_room_in1 hu) (zS I hb) hd dd ?_
  have q:=(rel.val k).isSome_eq
  rw [Option.isSome_map] at q
  rw [<- q,<- l]
  exact h _ (I.tok _)
theorem KE.len {es:List Ent}{xs:List (List Key × Addr × Value)}(r:KE es xs):es.length=xs.length:=Paired.length r
theorem KE.new {es:List Ent}{xs:List (List Key × Addr × Value)}(r:KE es xs) {k:List Key}(h:kP es k=none):atKey xs k=none:=by
  have rv:=r.val k
  rw [h] at rv
  cases q:atKey xs k with
  | none=>rfl
  | some y=>rw [q] at rv;cases rv
noncomputable def Z5t (K:Frag) (H:Hp) (a:Addr) (y v:V) (R:Hp->Prop):Prop:=∃ es ep k b,H a=some (.dE es ep) /\ mJ K H es /\ y=.ref b /\ SqT K H b (k.map kV) /\ kP es k=none /\ es.length < sizeLine /\ ∀ ep',R (upd H a (.dE (es ++ [(k,b,v)]) ep'))
theorem X0 {R:Hp->Prop}{Q:Unit->Shared->Prop}(hu:A.units + 1 < cLine) (I:Inv X pins σ H s) (g:Z5t X.K H a y v R) (ry:RelV y u) (rv:RelV v r) (h:∀ s' H',Inv X pins σ H' s'->R H'->Q () s') :
    wpAny (model X.prog X.w) A (setItem (.ref a) u r) Q E s:=by
  obtain⟨es,ep,k,b,e,ht,rfl,hb,no,l,hR⟩:=g
  cases (show u=Value.ref b from ry)
  obtain⟨z,hd,xs,rel,dd⟩:=X1 I (.inl e) ht
  have hz:xs.length <= sizeLine:=by rw [<- rel.len];exact z
  refine wpAny_setItem_heap (hsz:=hz) (tupleKind_room_in1 hu) (zS I hb) dd fun h' dd' hs=>?_
  rw [storedH_new (rel.new no)] at dd'
  obtain⟨q,es',ep',hq,h2,h3,h4,_,h5⟩:=dd'
  exact h _ _ (rR (ob:=.dE (es ++ [(k,b,v)]) ep') I (by rw [e];exact True.intro) hs ⟨q,hq⟩ ⟨by rw [List.length_append];exact l,hd,_,KE.snoc rv rel,q,es',hq,h2,h3,h4,h5⟩) (hR ep')
end
theorem Z1z {P:Program}{w:World}{H:Hp}(h:Heap) (hb:sysModules < h.objs.size):ObjOk P w H (h.push { cls:=.type "dict",data:=.dict #[] }) h.objs.size (.dE [] 0) :=
  ⟨Nat.zero_le _,beq_eq_false_iff_ne.mpr (Ne.symm (Nat.ne_of_lt hb)),[],.nil,_,#[],Heap.get?_push_size _ rfl,⟨rfl,rfl,rfl⟩,rfl,rfl,List.nodup_nil⟩
noncomputable def Z3A:TE:=fun _ H Q=>∀ p,H p=none->Q (.ref p) (upd H p (.dE [] 0))
noncomputable def Z4B (K:Frag) (td ty:TE):TE:=fun σ H Q=>td σ H fun x H1=>ty σ H1 fun y H2=>∃ a v,x=.ref a /\ Y9 K H2 a y (some v) /\ Q v H2
noncomputable def Z1T (K:Frag) (ty td:TE):TE:=fun σ H Q=>ty σ H fun y H1=>td σ H1 fun x H2=>∃ a o,x=.ref a /\ Y9 K H2 a y o /\ Q (.bl (!o.isSome)) H2
noncomputable def Z4K (K:Frag) (td ty tv:TE):TS:=fun D σ H=>tv σ H fun v H1=>td σ H1 fun x H2=>ty σ H2 fun y H3=>∃ a,x=.ref a /\ Z5t K H3 a y v fun H4=>D.nx σ H4
section
variable {X:Cx}{o i e value:Expr}{pos pos' tpos:Pos}{td ty tv:TE}
theorem pe_dnewE:PE X (.Dict [] [] pos) Z3A:=fun pins s σ H Q I h =>
  wpAny_Dict_empty ⟨.ref s.heap.objs.size,_,I.laid (a:=s.heap.objs.size) (o:=.dE [] 0) (t':=s.toks) (fun _ _ q=>Heap.get?_push_of_some _ q) (Nat.le_refl _) (Z1z s.heap I.big),rfl,h _ (I.hok.fresh (Nat.le_refl _))⟩
theorem Z1x {pins:List (Addr × Obj)}{σ:St}{H:Hp}{s:Shared}{a:Addr}{y:V}{o:Option V}(I:Inv X pins σ H s) (g:Y9 X.K H a y o):s.TypeIs (.ref a) "dict":=by
  obtain⟨es,ep,k,b,e,ht,_⟩:=g
  obtain⟨_,_,xs,_,dd⟩:=X1 I e ht
  exact dd.typeIs
theorem pe_eget (hu:X.A.units + 1 < cLine) (ho:PE X o td) (hi:PE X i ty) (hs:Z4p i):PE X (.Subscript o i pos) (Z4B X.K td ty):=by
  intro pins s σ H Q I h
  refine Z1U PySem.F.slot_dict_getitem.lookup hs (thn (ho pins s σ H _ I h) fun u s1 ⟨x,H1,I1,rx,q1⟩=>thn (hi pins s1 σ H1 _ I1 q1) fun iv s2 ⟨y,H2,I2,ry,a,v,ex,g,q2⟩=>?_)
  subst ex
  obtain rfl:u=Value.ref a:=rx
  exact⟨Z1x I2 g,X2 hu I2 g ry fun w' s3 I3 rw'=>⟨v,H2,I3,rw',q2⟩⟩
theorem T7 (hu:X.A.units + 1 < cLine) (hi:PE X i ty) (ho:PE X o td):PC X .NotIn i o (Z1T X.K ty td):=by
  intro pins s σ H Q I h
  refine thn (hi pins s σ H _ I h) fun iv s1 ⟨y,H1,I1,ry,q1⟩=>thn (ho pins s1 σ H1 _ I1 q1) fun u s2 ⟨x,H2,I2,rx,a,ov,ex,g,q2⟩=>?_
  subst ex
  obtain rfl:u=Value.ref a:=rx
  exact Z31 hu I2 g ry fun s3 I3=>⟨.bl (!ov.isSome),H2,I3,rfl,q2⟩
theorem Z2m (hu:X.A.units + 1 < cLine) (ho:PE X o td) (hi:PE X i ty) (hv:PE X value tv) (hs:swapsWith value (some (.Subscript o i pos')) pos.line X.env=pure false) :
    PS X (.Assign [.Subscript o i pos'] value pos) (Z4K X.K td ty tv):=by
  intro pins s σ H D I h
  refine wpAny_Assign_Subscript (thn (hv pins s σ H _ I h) fun r s1 ⟨v,H1,I1,rv,q1⟩=>thn (ho pins s1 σ H1 _ I1 q1) fun u s2 ⟨x,H2,I2,rx,q2⟩=>thn (hi pins s2 σ H2 _ I2 q2) fun iv s3 ⟨y,H3,I3,ry,a,ex,g⟩=>?_) hs
  subst ex
  obtain rfl:u=Value.ref a:=rx
  exact X0 hu I3 g ry rv fun s4 H4 I4 q3=>⟨σ,H4,I4,q3⟩
end
section
variable {prog:Program}{w:World}{A:Around}{E:Value->Shared->Prop}{R:Result->Shared->Prop}{s:Shared}
theorem xM {elt target iter:Expr}{ifs:List Expr}{scope:Scope}{pos:Pos}{it acc:Value}{env:Env}(I:Nat->Shared->Prop)
    (turn:∀ n s,I n s->wpAny (model prog w) A (pyNext it) (fun r s₁=>match r with
      | none=>R (.ok .next) s₁
      | some v=>wpAny (model prog w) A (letOwnedTupleGo target it v) (fun _ s₀=>wpAny (model prog w) A (assign target env v) (fun _ s₂ =>
          wpAny (model prog w) A (forIn ifs true fun c r=>if r=true then do let ok <- isTrue c env (eval c env);pure (ForInStep.yield ok) else pure (ForInStep.yield r)) (fun ok s₃ =>
            if ok=true then wpAny (model prog w) A (eval elt env) (fun x s₄ =>
              wpAny (model prog w) A (call (.builtin "list.append") [acc,x]) (fun _ s₅=>∃ m,m < n /\ I m s₅) (notedBy (model prog w) A env fun e s'=>R (.error e) s') s₄) (notedBy (model prog w) A env fun e s'=>R (.error e) s') s₃
            else ∃ m,m < n /\ I m s₃) (notedBy (model prog w) A env fun e s'=>R (.error e) s') s₂) (notedBy (model prog w) A env fun e s'=>R (.error e) s') s₀)
          (notedBy (model prog w) A env fun e s'=>R (.error e) s') s₁) (notedBy (model prog w) A env fun e s'=>R (.error e) s') s)
    (n:Nat) (h:I n s) :
    codeAny (model prog w) A (.compLoop (.ListComp elt [⟨target,iter,ifs,0⟩] scope pos) 0 it acc env) R s:=by
  refine codeAny_loop rfl I (fun n s hI=>?_) n h
  show wpAny _ A ((compTurn (.ListComp elt [⟨target,iter,ifs,0⟩] scope pos) 0 it acc env).onRaise (fun x=>do noteFrame x env;theTreesLotGoes x)) _ _ s
  refine wpAny_noted ?_
  rw [compTurn_list]
  refine wpAny_bind (wpAny_standAt (wpAny_bind (wpAny_mono (turn n s hI) (fun r s₁ h₁=>?_) fun _ _ h'=>h')))
  cases r with
  | none=>exact wpAny_pure h₁
  | some v =>
    refine wpAny_bind (wpAny_mono h₁ (fun _ s₀ h₀=>?_) fun _ _ h'=>h')
    refine wpAny_bind (wpAny_mono h₀ (fun _ s₂ h₂=>wpAny_bind (wpAny_mono h₂ (fun ok s₃ h₃=>?_) fun _ _ h'=>h')) fun _ _ h'=>h')
    cases ok with
    | false=>exact wpAny_pure ⟨rfl,h₃⟩
    | true =>
      exact wpAny_bind (wpAny_bind (wpAny_mono h₃ (fun x s₄ h₄=>wpAny_bind (wpAny_mono h₄ (fun _ s₅ h₅=>wpAny_pure (wpAny_pure ⟨rfl,h₅⟩)) fun _ _ h'=>h')) fun _ _ h'=>h'))
end
theorem oP {env:Env}:∀ (names:List (Str × NameKind)) (acc:List (Str × Addr)),(∀ n,(n,NameKind.free) ∈ names->∃ c,env.cells.lookup n=some c) ->
    (∀ n c,acc.lookup n=some c->env.cells.lookup n=some c) ->
    ∃ cl,(forIn names acc fun (x:Str × NameKind) cs=>(if (x.2 == NameKind.free)=true then (cellOf env x.1 >>= fun a=>pure (ForInStep.yield ((x.1,a) :: cs))) else pure (ForInStep.yield cs):Sem (ForInStep (List (Str × Addr)))))=pure cl /\
      (∀ n c,cl.lookup n=some c->env.cells.lookup n=some c) /\ (∀ n,(n,NameKind.free) ∈ names->∃ c,cl.lookup n=some c) /\ (∀ n c,acc.lookup n=some c->∃ c',cl.lookup n=some c')
  | [],acc,_,h2=>⟨acc,rfl,h2,fun n h=>(nomatch h),fun n c h=>⟨c,h⟩⟩
  | (n,k) :: r,acc,h1,h2=>by
    by_cases hk:k=.free
    . subst hk
      obtain⟨c,hc⟩:=h1 n List.mem_cons_self
      have h2':∀ m c',((n,c) :: acc).lookup m=some c'->env.cells.lookup m=some c':=by
        intro m c' e
        rw [List.lookup_cons] at e
        cases q:m == n with
        | true =>
          rw [q] at e
          have:=eq_of_beq q
          subst this
          cases e
          exact hc
        | false =>
          rw [q] at e
          exact h2 m c' e
      obtain⟨cl,e,g1,g2,g3⟩:=oP r ((n,c) :: acc) (fun m hm=>h1 m (List.mem_cons_of_mem _ hm)) h2'
      refine⟨cl,?_,g1,?_,?_⟩
      . rw [List.forIn_cons]
        have e1:cellOf env n=pure c:=by unfold cellOf;rw [hc]
        show ((if (NameKind.free == NameKind.free)=true then _ else _) >>= _)=_
        rw [if_pos (by rfl),e1]
        exact e
      . intro m hm
        rcases List.mem_cons.mp hm with z | z
        . cases z
          exact g3 n c (by simp [List.lookup_cons])
        . exact g2 m z
      . intro m c' hm
        cases q:m == n with
        | true=>exact g3 m c (by rw [List.lookup_cons,q])
        | false=>exact g3 m c' (by rw [List.lookup_cons,q];exact hm)
    . obtain⟨cl,e,g1,g2,g3⟩:=oP r acc (fun m hm=>h1 m (List.mem_cons_of_mem _ hm)) h2
      refine⟨cl,?_,g1,?_,g3⟩
      . rw [List.forIn_cons]
        have:(k == NameKind.free)=false:=by simpa using hk
        show ((if (k == NameKind.free)=true then _ else _) >>= _)=_
        rw [this,if_neg (by decide)]
        exact e
      . intro m hm
        rcases List.mem_cons.mp hm with z | z
        . cases z;exact absurd rfl hk
        . exact g2 m z
theorem tO {scope:Scope}{env:Env}(h:∀ n,(n,NameKind.free) ∈ scope.names->∃ c,env.cells.lookup n=some c) :
    ∃ cl,closureFor scope env=pure cl /\ (∀ n c,cl.lookup n=some c->env.cells.lookup n=some c) /\ (∀ n,(n,NameKind.free) ∈ scope.names->∃ c,cl.lookup n=some c):=by
  obtain⟨cl,e,g1,g2,_⟩:=oP (env:=env) scope.names [] h (fun n c q=>(nomatch q))
  refine⟨cl,?_,g1,g2⟩
  unfold closureFor
  first
    | (rw [show (forIn scope.names ([]:List (Str × Addr)) _:Sem (List (Str × Addr)))=pure cl from e];rfl)
    | (simp only [bind_pure];exact e)
    | exact e
noncomputable def eQ (X:Cx) (N':List Str) (scope:Scope) (cl:List (Str × Addr)) (C:Addr) (s₀:Shared) (H₀:Hp) (ex:List Addr) (pins:List (Addr × Obj)):Cx :=
  { X with N:=N',s₀:=s₀,H₀:=H₀,env:=compEnvC scope cl C X.env,outer:=X.stack,stack:=X.stack,ex:=ex,fn:=fun _=>false,pn:=X.pn ++ pins,xe:=fun _ _=>False }
noncomputable def gR (osc:Scope) (N:List Str) (scope:Scope) (fr:List Nat):Bool :=
  scope.kind == .function && scope.names.all (fun y=>y.2 != .cell) && scope.names.all (fun y=>y.2 != .free || (osc.names.lookup y.1 == some .cell || osc.names.lookup y.1 == some .free)) &&
  fr.all (fun j=>match N[j]? with | some x=>scope.names.lookup x == some .free | none=>false) && scope.names.all (fun y=>y.2 != .local || scope.names.lookup y.1 == some .local)
theorem jE {env:Env}:∀ {names:List (Str × NameKind)}{x:Str},names.lookup x=some .free ->
    (names.map fun (n,k)=>if (k == NameKind.free && env.scope.kind == .function && env.kindOf n == some .cell) then (n,NameKind.cell) else (n,k)).lookup x=some .cell \/
    (names.map fun (n,k)=>if (k == NameKind.free && env.scope.kind == .function && env.kindOf n == some .cell) then (n,NameKind.cell) else (n,k)).lookup x=some .free
  | [],_,h=>by simp at h
  | (n,k) :: r,x,h=>by
    have ih:=@jE env r x
    show List.lookup x ((if (k == NameKind.free && env.scope.kind == .function && env.kindOf n == some .cell)=true then (n,NameKind.cell) else (n,k)) :: _)=_ \/ List.lookup x ((if (k == NameKind.free && env.scope.kind == .function && env.kindOf n == some .cell)=true then (n,NameKind.cell) else (n,k)) :: _)=_
    cases hx:x == n with
    | true =>
      simp only [List.lookup_cons,hx] at h
      cases h
      by_cases hc:(NameKind.free == NameKind.free && env.scope.kind == .function && env.kindOf n == some .cell)=true
      . rw [if_pos hc];left;simp only [List.lookup_cons,hx]
      . rw [if_neg hc];right;simp only [List.lookup_cons,hx]
    | false =>
      simp only [List.lookup_cons,hx] at h
      by_cases hc:(k == NameKind.free && env.scope.kind == .function && env.kindOf n == some .cell)=true
      . rw [if_pos hc];simp only [List.lookup_cons,hx];exact ih h
      . rw [if_neg hc];simp only [List.lookup_cons,hx];exact ih h
theorem qO {env:Env}{names:List (Str × NameKind)}(hc:∀ y ∈ names,y.2 ≠ .cell) {x:Str}{k':NameKind}(hk:k'=.cell \/ k'=.free)
    (h:(names.map fun (n,k)=>if (k == NameKind.free && env.scope.kind == .function && env.kindOf n == some .cell) then (n,NameKind.cell) else (n,k)).lookup x=some k'):(x,NameKind.free) ∈ names:=by
  have h1:=PySem.mem_of_lookup h
  obtain⟨⟨n,k⟩,hm,e⟩:=List.mem_map.mp h1
  by_cases q:(k == NameKind.free && env.scope.kind == .function && env.kindOf n == some .cell)=true
  . simp only [q] at e
    simp at e
    obtain⟨rfl,_⟩:=e
    simp at q
    obtain⟨⟨rfl,_⟩,_⟩:=q
    exact hm
  . simp only [q] at e
    simp at e
    obtain⟨rfl,rfl⟩:=e
    rcases hk with z | z
    . exact absurd z (hc _ hm)
    . subst z;exact hm
section
variable {X:Cx}{pins:List (Addr × Obj)}{σ:St}{H:Hp}{s:Shared}
noncomputable def hG (k:Nat) (fr:List Nat) (σ:St):St:=List.replicate k none ++ fr.map fun j=>(σ[j]?).join
noncomputable def eI (tgs:List Str) (fr:List Nat) (N:List Str):List Str:=tgs ++ fr.map fun j=>(N[j]?).getD Str.empty
theorem Z1a {scope:Scope}{tgs:List Str}{fr:List Nat}{cl:List (Str × Addr)}{h':Heap}{tk:Nat}{ex:List Addr}(I:Inv X pins σ H s)
    (chk:gR X.env.scope X.N scope fr=true)
    (hcl1:∀ n c,cl.lookup n=some c->X.env.cells.lookup n=some c) (hcl2:∀ n,(n,NameKind.free) ∈ scope.names->∃ c,cl.lookup n=some c)
    (hns:h'.Ns s.heap.objs.size (fun _=>none)) (hkeep:∀ b o,s.heap.get? b=some o->h'.get? b=some o)
    (hex:∀ b ∈ ex,uQ X pins H b /\ b < s.heap.objs.size) :
    Inv (eQ X (eI tgs fr X.N) scope cl s.heap.objs.size s H ex pins) [] (hG tgs.length fr σ) H { s with heap:=h',toks:=tk }:=by
  simp only [gR,Bool.and_eq_true,List.all_eq_true] at chk
  obtain⟨⟨⟨⟨c1,c2⟩,c3⟩,c4⟩,c5⟩:=chk
  have hkind:scope.kind=.function:=by simpa using c1
  have hcell:∀ y ∈ scope.names,y.2 ≠ .cell:=fun y hy=>by simpa using c2 y hy
  have lt:∀ b o,s.heap.get? b=some o->b < s.heap.objs.size:=fun b o e=>Heap.lt_size e
  have nofr:∀ b ∈ frs X.stack,b ∈ X.env.locals :: X.fs:=I.stkSub
  refine⟨⟨I.ok.mod,hkind,I.ok.glob,I.ok.blt,Nat.le_refl _,fun x y c a b=>I.ok.inj x y c (hcl1 _ _ a) (hcl1 _ _ b),fun x hx=>?_,fun x c hf _=>?_,I.ok.hd,I.ok.frames,.inl rfl,fun b hb=>⟨?_,fun x c e=>(hex b hb).1.2.2.2.2.1 x c (hcl1 _ _ e)⟩,
      I.bs,Nat.le_trans I.ok.bsz I.sz,fun b o e hb=>?_,fun b hb hf=>?_,I.stack,I.stkFree⟩,
    rfl,I.bare,Un.kept hkeep,⟨fun _=>none,hns,fun i x v h1 h2 h3=>?_⟩,fun x c e=>?_,I.fresh,fun x c e=>I.freeC x c (hcl1 _ _ e),fun p hp=>?_,I.hok.kept hkeep,?_⟩
  . -- has
    have hx:(relabel scope X.env).names.lookup x=some .cell \/ (relabel scope X.env).names.lookup x=some .free:=hx
    rcases hx with z | z
    . exact hcl2 x (qO hcell (.inl rfl) z)
    . exact hcl2 x (qO hcell (.inr rfl) z)
  . cases hf
  . show b ≠ s.heap.objs.size
    exact Nat.ne_of_lt (hex b hb).2
  . -- noex
    obtain⟨⟨_,_,_,h4,_⟩,_⟩:=hex b hb
    rcases h4 with z | z
    . exact I.ok.noex b o e z
    . exact absurd (Heap.lt_size (I.ok.bs b o e).1) (Nat.not_lt.mpr z)
  . -- exfs
    obtain⟨⟨_,h2,h3,_⟩,_⟩:=hex b hb
    rcases List.mem_cons.mp (nofr b hf) with z | z
    . exact h2 z
    . exact h3 z
  . -- loc
    have h1:(eI tgs fr X.N)[i]? = some x:=h1
    by_cases hi:i < tgs.length
    . unfold hG at h2
      rw [List.getElem?_append_left (by simpa using hi),List.getElem?_replicate,if_pos hi] at h2
      cases h2
    . unfold hG at h2
      rw [List.getElem?_append_right (by simpa using hi),List.length_replicate,List.getElem?_map] at h2
      unfold eI at h1
      rw [List.getElem?_append_right (by simpa using hi),List.getElem?_map] at h1
      cases ej:fr[i - tgs.length]? with
      | none=>rw [ej] at h2;cases h2
      | some j =>
        rw [ej] at h1 h2
        have hj:=c4 j (List.mem_of_getElem? ej)
        cases en:X.N[j]? with
        | none=>rw [en] at hj;cases hj
        | some y =>
          rw [en] at hj
          simp only [Option.map_some,en,Option.getD_some] at h1
          cases h1
          have hl:scope.names.lookup x=some .free:=by simpa using hj
          have hσ:σ[j]? = some (some v):=by
            simp only [Option.map_some] at h2
            cases eσ:σ[j]? with
            | none=>rw [eσ] at h2;cases h2
            | some o=>rw [eσ] at h2;simp only [Option.join_some] at h2;injection h2 with h2;rw [h2]
          have hko:X.env.scope.names.lookup x=some .cell \/ X.env.scope.names.lookup x=some .free:=by
            have:=c3 _ (PySem.mem_of_lookup hl)
            simpa using this
          obtain⟨m,_,hloc⟩:=I.loc
          obtain⟨u,r,q⟩:=hloc j x v en hσ (hko.elim (fun z=>.inr (.inl z)) fun z=>.inr (.inr z))
          refine⟨u,r,.inr ?_⟩
          obtain⟨c,hc⟩:=hcl2 x (PySem.mem_of_lookup hl)
          have hin:=jE (env:=X.env) hl
          refine⟨hin,c,hc,?_⟩
          rcases q with ⟨k,_⟩ | ⟨_,c',e',z⟩
          . have k':X.env.scope.names.lookup x=some .local:=k
            rcases hko with w | w <;> (rw [k'] at w;cases w)
          . have:c'=c:=by have:=hcl1 x c hc;rw [e'] at this;exact Option.some.inj this
            subst this
            obtain⟨oc,hoc,hd⟩:=z
            exact⟨oc,hkeep _ _ hoc,hd⟩
  . obtain⟨v,oc,hoc,hd⟩:=I.cell x c (hcl1 _ _ e)
    exact⟨v,oc,hkeep _ _ hoc,hd⟩
  . have hp':p ∈ X.pn ++ pins:=by
      have:p ∈ (X.pn ++ pins) ++ []:=hp
      simpa using this
    obtain⟨a1,a2,a3,a4,a5⟩:=I.pin p hp'
    refine⟨hkeep _ _ a1,a2,?_,fun hf=>?_,a5⟩
    . show p.1 ≠ s.heap.objs.size
      exact Nat.ne_of_lt (lt _ _ a1)
    . rcases List.mem_cons.mp (nofr _ hf) with z | z
      . exact a3 z
      . exact a4 z
  . show (hG tgs.length fr σ).length=(eI tgs fr X.N).length
    simp [hG,eI]
end
noncomputable def PTs (X:Cx) (ifs:List Expr) (t:TT):Prop :=
  ∀ (pins:List (Addr × Obj)) (s:Shared) (σ:St) (H:Hp) (Q:Bool->Hp->Prop),Inv X pins σ H s->t σ H Q ->
    wpAny (model X.prog X.w) X.A (forIn ifs true fun c r=>if r=true then do let ok <- isTrue c X.env (eval c X.env);pure (ForInStep.yield ok) else pure (ForInStep.yield r)) (TP X pins σ Q) X.xe s
noncomputable def Z4v:TT:=fun _ H Q=>Q true H
theorem Z2j {X:Cx}:PTs X [] Z4v:=fun pins s σ H Q I h=>wpAny_tests_nil ⟨H,I,h⟩
theorem Z2i {X:Cx}{c:Expr}{t:TT}(h:PT X c t):PTs X [c] t:=fun pins s σ H Q I q=>wpAny_tests_one (h pins s σ H Q I q)
noncomputable def Z3s (J:It) (k:Nat) (fr:List Nat) (g:TG) (tt:TT) (te:TE) (σ:St) (H1:Hp) (Q:VK):Prop :=
  ∀ acc,H1 acc=none->∃ W:Nat->Nat->List V->Hp->Prop,(∃ m,W 0 m [] (upd H1 acc (.lst []))) /\ ∀ i m ys H,W i m ys H->H acc=some (.lst ys) /\
    ((J.stop i H /\ Q (.ref acc) H) \/ (J.go i H /\ ∀ x H', J.yld i H x H' -> g x (hG k fr σ) H' fun σ2 H2 => (σ2.drop k = (hG k fr σ).drop k /\ σ2.length = (hG k fr σ).length) /\ tt σ2 H2 fun b H3 => if b = true then te σ2 H3 fun y H4 => ∃ ys', H4 acc = some (.lst ys') /\ ys'.length < sizeLine /\
      ∃ m',m' < m /\ W (i + 1) m' (ys' ++ [y]) (upd H4 acc (.lst (ys' ++ [y]))) else ∃ m' ys',m' < m /\ W (i + 1) m' ys' H3))
noncomputable def yF (wi:TI) (k:Nat) (fr:List Nat) (g:TG) (tt:TT) (te:TE):TE:=fun σ H Q=>wi σ H fun J H1=>Z3s J k fr g tt te σ H1 Q
section
variable {X:Cx}{pins:List (Addr × Obj)}{σ:St}{H:Hp}{s:Shared}{elt iter tg:Expr}{ifs:List Expr}{scope:Scope}{pos:Pos}{tgs:List Str}{fr:List Nat}{g:TG}{tt:TT}{te:TE}{J:It}{fp:List Addr}{it:Addr}{tn:Nat->Heap->Prop}
theorem zV {cl:List (Str × Addr)}{R:VK}{E:Value->Shared->Prop}{RR:Value->Addr->Result->Shared->Prop}(I2:Inv X pins σ H s) (T:xQ X.prog X.w X.K tg J fp it tn) (st2:tn 0 s.heap) (f2:∀ b ∈ fp,uQ X pins H b) (hc:X.calm=true)
    (chk:gR X.env.scope X.N scope fr=true)
    (hcl1:∀ n c,cl.lookup n=some c->X.env.cells.lookup n=some c) (hcl2:∀ n,(n,NameKind.free) ∈ scope.names->∃ c,cl.lookup n=some c)
    (hg:∀ cl C s0 H0 ex pins,PG (eQ X (eI tgs fr X.N) scope cl C s0 H0 ex pins) tg g)
    (ht:∀ cl C s0 H0 ex pins,PTs (eQ X (eI tgs fr X.N) scope cl C s0 H0 ex pins) ifs tt)
    (he:∀ cl C s0 H0 ex pins,PE (eQ X (eI tgs fr X.N) scope cl C s0 H0 ex pins) elt te)
    (rd:Z3s J tgs.length fr g tt te σ H R)
    (fin:∀ D C s' Hend m,Inv X pins σ Hend s'->s'.heap.Ns C m->Hend C=none->C ≠ X.env.locals->X.s₀.heap.objs.size <= C->(∀ x c,X.env.cells.lookup x=some c->c ≠ C)->(∀ p ∈ X.pn ++ pins,p.1 ≠ C)->R (.ref D) Hend->RR (.ref D) C (.ok .next) s') :
    wpAny (model X.prog X.w) X.A (newList []) (fun acc s₃=>wpAny (model X.prog X.w) X.A (newFunctionEnv scope X.env.globals cl [] X.env.qual none .none (some X.env)) (fun cenv s₄ =>
      codeAny (model X.prog X.w) X.A (.compStart (.ListComp elt [⟨tg,iter,ifs,0⟩] scope pos) 0 (.ref it) acc { cenv with scope:=relabel scope X.env }) (RR acc cenv.locals) s₄) E s₃) E s:=by
  have chk':=chk
  simp only [gR,Bool.and_eq_true,List.all_eq_true] at chk'
  obtain⟨⟨⟨⟨c1,c2⟩,c3⟩,c4⟩,c5⟩:=chk'
  have hkind:scope.kind=.function:=by simpa using c1
  have hcell:∀ y ∈ scope.names,y.2 ≠ .cell:=fun y hy=>by simpa using c2 y hy
  refine wpAny_newObj_type (wpAny_newFunctionEnv hcell (by intro y hy;simp at hy) (fun h₁ hns₁ hsb₁=>?_) hkind)
  have I3:Inv X pins σ (upd H s.heap.objs.size (.lst [])) { s with heap:=s.heap.push { cls:=.type "list",data:=.seq ([]:List Value).toArray } }:=I2.lnew (t':=s.toks) (its:=[]) .nil (Nat.zero_le _)
  generalize hs3:({ s with heap:=s.heap.push { cls:=.type "list",data:=.seq ([]:List Value).toArray } }:Shared)=s3 at I3 hns₁ hsb₁ ⊢
  have heap3:s3.heap=s.heap.push { cls:=.type "list",data:=.seq ([]:List Value).toArray }:=by rw [<- hs3]
  have kept3:∀ b o,s.heap.get? b=some o->s3.heap.get? b=some o:=fun b o e=>by rw [heap3];exact Heap.get?_push_of_some _ e
  have size3:s3.heap.objs.size=s.heap.objs.size + 1:=by rw [heap3,Heap.size_push]
  have fpl:∀ b ∈ fp,b < s.heap.objs.size:=fun b hb=>by
    obtain⟨o,e,_⟩:=T.obj 0 _ st2 b hb
    exact Heap.lt_size e
  have upn:∀ {b:Addr},b < s.heap.objs.size->upd H s.heap.objs.size (.lst []) b=H b:=fun hb=>aX (Nat.ne_of_lt hb)
  have f3:∀ b ∈ fp,uQ X pins (upd H s.heap.objs.size (.lst [])) b:=fun b hb=>⟨by rw [upn (fpl b hb)];exact (f2 b hb).1,(f2 b hb).2⟩
  have keep4:∀ b o,s3.heap.get? b=some o->h₁.get? b=some o:=fun b o e=>hsb₁.extBut b o (Nat.ne_of_lt (Heap.lt_size e)) (Heap.get?_push_of_some _ e)
  have I4:=Z1a (tgs:=tgs) (h':=h₁) (tk:=s3.toks + ([]:List (Str × Value)).length) (ex:=fp) I3 chk hcl1 hcl2 (by simpa using hns₁) keep4 (fun b hb=>⟨f3 b hb,by rw [size3];exact Nat.lt_succ_of_lt (fpl b hb)⟩)
  obtain⟨W,⟨m0,w0⟩,turn⟩:=rd s.heap.objs.size I2.fresh
  generalize hX':eQ X (eI tgs fr X.N) scope cl s3.heap.objs.size s3 (upd H s.heap.objs.size (.lst [])) fp pins=X' at I4
  have eA:X'.A=X.A:=by rw [<- hX'];rfl
  have eP:X'.prog=X.prog:=by rw [<- hX'];rfl
  have eW:X'.w=X.w:=by rw [<- hX'];rfl
  have eK:X'.K=X.K:=by rw [<- hX'];rfl
  have eC:X'.calm=true:=by rw [<- hX'];exact hc
  have eX:X'.xe=fun _ _=>False:=by rw [<- hX'];rfl
  have eEnv:X'.env=compEnvC scope cl s3.heap.objs.size X.env:=by rw [<- hX'];rfl
  have hg':PG X' tg g:=by rw [<- hX'];exact hg _ _ _ _ _ _
  have ht':PTs X' ifs tt:=by rw [<- hX'];exact ht _ _ _ _ _ _
  have he':PE X' elt te:=by rw [<- hX'];exact he _ _ _ _ _ _
  have fp4:∀ {H':Hp},(∀ b ∈ fp,H' b=none)->∀ b ∈ fp,uQ X' [] H' b:=fun {H'} hn b hb=>by
    rw [<- hX']
    obtain⟨_,z2,z3,z4,z5,z6⟩:=f3 b hb
    refine⟨hn b hb,?_,fun hf=>?_,.inl hb,fun x c e=>z5 x c (hcl1 _ _ e),fun p hp=>z6 p (by have:p ∈ (X.pn ++ pins) ++ []:=hp;simpa using this)⟩
    . show b ≠ s3.heap.objs.size
      rw [size3];exact Nat.ne_of_lt (Nat.lt_succ_of_lt (fpl b hb))
    . rcases List.mem_cons.mp (I3.stkSub b hf) with z | z
      . exact z2 z
      . exact z3 z
  have loop:codeAny (model X.prog X.w) X.A (.compLoop (.ListComp elt [⟨tg,iter,ifs,0⟩] scope pos) 0 (.ref it) (.ref s.heap.objs.size) (compEnvC scope cl s3.heap.objs.size X.env))
      (RR (.ref s.heap.objs.size) s3.heap.objs.size) { s3 with heap:=h₁,toks:=s3.toks + ([]:List (Str × Value)).length }:=by
    refine xM (fun n s'=>∃ i ys H',Inv X' [] (hG tgs.length fr σ) H' s' /\ tn i s'.heap /\ (∀ b ∈ fp,H' b=none) /\ W i n ys H') ?_ m0
      ⟨0,[],upd H s.heap.objs.size (.lst []),I4,T.keep _ _ _ st2 fun b hb o e=>keep4 _ _ (kept3 _ _ e),fun b hb=>(f3 b hb).1,w0⟩
    rintro n s5 ⟨i,ys,H5,I5,st5,fr5,w5⟩
    obtain⟨hacc,turn⟩:=turn i n ys H5 w5
    rcases turn with ⟨stop,q⟩ | ⟨go,step⟩
    . have d:=T.done X' eP eW eK eC i [] s5 (hG tgs.length fr σ) H5 (fun _ _=>False) I5 (fp4 fr5) st5 stop
      rw [eA] at d
      refine wpAny_mono d (fun r s6 ⟨hr,I6⟩=>?_) fun _ _ z=>z.elim
      subst hr
      have I6':=I6
      rw [<- hX'] at I6'
      have un6:Un (frs X.stack) fp (upd H s.heap.objs.size (.lst [])) H5 s3.heap s6.heap:=I6'.base
      have I7:Inv X pins σ H5 s6:=I3.call' I6'.os un6 (by have:=I6'.hok;exact this) I6'.bare fun b hb=>⟨(f3 b hb).2.2.2.1,(f3 b hb).2.1,(f3 b hb).2.2.2.2.1,(f3 b hb).2.2.2.2.2⟩
      obtain⟨m,hm,_⟩:=I6'.loc
      refine fin _ _ s6 H5 m I7 hm I6'.free ?_ ?_ ?_ ?_ q
      . exact fun z=>by have:=I3.lt;rw [<- z] at this;exact Nat.lt_irrefl _ this
      . exact I3.sz
      . intro x c e z
        obtain⟨v,oc,hoc,_⟩:=I3.cell x c e
        have:=Heap.lt_size hoc
        rw [z] at this;exact Nat.lt_irrefl _ this
      . intro p hp z
        have:=Heap.lt_size (I3.pin p hp).1
        rw [z] at this;exact Nat.lt_irrefl _ this
    . have d:=T.item X' eP eW eK eC i [] s5 (hG tgs.length fr σ) H5 (fun _ _=>False) I5 (fp4 fr5) st5 go
      rw [eA] at d
      refine wpAny_mono d (fun r s6 ⟨u,hr,h6⟩=>?_) fun _ _ z=>z.elim
      subst hr
      refine wpAny_mono h6 (fun _ s7 ⟨x,H7,I7,r7,y7,st7,fr7⟩=>?_) fun _ _ z=>z.elim
      have I7':=I7.pinned (fp4 fr7) (T.obj _ _ st7)
      have a:=hg' _ s7 _ H7 x u _ I7' r7 (step x H7 y7)
      rw [eEnv,eA,eP,eW,eX] at a
      refine wpAny_mono a (fun _ s8 ⟨σ8,H8,I8,⟨kp,kl⟩,q8⟩=>?_) fun _ _ z=>z.elim
      have b:=ht' _ s8 σ8 H8 _ I8 q8
      rw [eEnv,eA,eP,eW,eX] at b
      refine wpAny_mono b (fun ok s9 ⟨H9,I9,q9⟩=>?_) fun _ _ z=>z.elim
      have again:∀ {s10:Shared}{H10:Hp}{ys10:List V}{m':Nat},Inv X' ([] ++ sO fp s7.heap) σ8 H10 s10->m' < n->W (i + 1) m' ys10 H10 ->
          ∃ m,m < n /\ ∃ i ys H',Inv X' [] (hG tgs.length fr σ) H' s10 /\ tn i s10.heap /\ (∀ b ∈ fp,H' b=none) /\ W i m ys H':=fun {s10 H10 ys10 m'} I10 hm w10=>by
        refine⟨m',hm,i + 1,ys10,H10,I10.unpinned.weak kl.symm (fun j v e=>?_),T.keep _ _ _ st7 fun b hb o e=>(I10.pin (b,o) (List.mem_append_right _ (List.mem_append_right _ (mC hb e)))).1,fun b hb=>?_,w10⟩
        . by_cases hj:j < tgs.length
          . unfold hG at e
            rw [List.getElem?_append_left (by simpa using hj),List.getElem?_replicate,if_pos hj] at e
            cases e
          . have e1:(σ8.drop tgs.length)[j - tgs.length]? = some (some v):=by
              rw [kp,List.getElem?_drop]
              rw [show tgs.length + (j - tgs.length)=j by omega]
              exact e
            rw [List.getElem?_drop,show tgs.length + (j - tgs.length)=j by omega] at e1
            exact e1
        . obtain⟨o,e,d⟩:=T.obj _ _ st7 b hb
          exact (I10.pin (b,o) (List.mem_append_right _ (List.mem_append_right _ (mC hb e)))).2.1
      cases ok with
      | false =>
        rw [if_neg (by decide)] at q9 ⊢
        obtain⟨m',ys',hm,w9⟩:=q9
        exact again I9 hm w9
      | true =>
        rw [if_pos rfl] at q9 ⊢
        have c:=he' _ s9 σ8 H9 _ I9 q9
        rw [eEnv,eA,eP,eW,eX] at c
        refine wpAny_mono c (fun y s10 ⟨v10,H10,I10,r10,ys',ha10,hl10,m',hm,w10⟩=>?_) fun _ _ z=>z.elim
        have d:=pV (X:=X') _ s10 σ8 H10 (.ref s.heap.objs.size) [v10] (.ref s.heap.objs.size) [y] (fun _ H11=>W (i + 1) m' (ys' ++ [v10]) H11) I10 rfl (.cons r10 .nil) ⟨_,ys',v10,rfl,rfl,ha10,hl10,w10⟩
        rw [eA,eP,eW,eX] at d
        refine wpAny_mono d (fun _ s11 ⟨_,H11,I11,_,w11⟩=>again I11 hm w11) fun _ _ z=>z.elim
  exact codeAny_compStart_list loop (T.self _ 0 _ _ _ (T.keep _ _ _ st2 fun b hb o e=>keep4 _ _ (kept3 _ _ e)) loop)
theorem M8 {wi:TI}(hc:X.calm=true) (chk:gR X.env.scope X.N scope fr=true) (hi:PI X tg iter wi)
    (hg:∀ cl C s0 H0 ex pins,PG (eQ X (eI tgs fr X.N) scope cl C s0 H0 ex pins) tg g)
    (ht:∀ cl C s0 H0 ex pins,PTs (eQ X (eI tgs fr X.N) scope cl C s0 H0 ex pins) ifs tt)
    (he:∀ cl C s0 H0 ex pins,PE (eQ X (eI tgs fr X.N) scope cl C s0 H0 ex pins) elt te)
    (hs:∀ x,foldedSetIterable iter X.env x=pure x:=by intro _;rfl) :
    PE X (.ListComp elt [⟨tg,iter,ifs,0⟩] scope pos) (yF wi tgs.length fr g tt te):=by
  intro pins s σ H Q I h
  have chk':=chk
  simp only [gR,Bool.and_eq_true,List.all_eq_true] at chk'
  obtain⟨⟨⟨⟨c1,c2⟩,c3⟩,c4⟩,c5⟩:=chk'
  obtain⟨cl,ecl,hcl1,hcl2⟩:=tO (scope:=scope) (env:=X.env) fun n hn=>I.ok.has n (by have:=c3 _ hn;show X.env.scope.names.lookup n=_ \/ X.env.scope.names.lookup n=_;simpa using this)
  rw [eval_ListComp]
  refine wpAny_comprehension_free (use:=none) rfl hs ecl (by simpa using c1) (fun x hx hl=>by have:=c5 x hx;rw [hl] at this;simpa using this) (thn (hi pins s σ H _ I h) fun x s1 h1=>thn h1 fun itv s2 h2=>?_)
  obtain⟨it,fp,tn,J,H2,rfl,I2,T,st2,f2,rd⟩:=h2
  refine zV (R:=Q) (RR:=fun acc C=>compPost (model X.prog X.w) X.A X.xe none (EP X pins σ Q) acc C) I2 T st2 f2 hc chk hcl1 hcl2 hg ht he rd ?_
  intro D C s' Hend m I' hn hf hL hsz hcs hps q
  exact⟨m,hn,fun h' hs'=>⟨.ref D,Hend,I'.turned (t':=s'.toks) (fun b o hb e=>hs'.extBut b o hb e) hf hL (.inr hsz) hcs hps,rfl,q⟩⟩
theorem sN {wi:TI}{i:Nat}{x:Str}{pos' spos:Pos}(hc:X.calm=true) (hN:X.N.Nodup) (hi':X.N[i]? = some x) (hx:Loc X.env.scope x) (chk:gR X.env.scope X.N scope fr=true) (hi:PI X tg iter wi)
    (hg:∀ cl C s0 H0 ex pins,PG (eQ X (eI tgs fr X.N) scope cl C s0 H0 ex pins) tg g)
    (ht:∀ cl C s0 H0 ex pins,PTs (eQ X (eI tgs fr X.N) scope cl C s0 H0 ex pins) ifs tt)
    (he:∀ cl C s0 H0 ex pins,PE (eQ X (eI tgs fr X.N) scope cl C s0 H0 ex pins) elt te)
    (hsw:swapsWith (.ListComp elt [⟨tg,iter,ifs,0⟩] scope pos) (some (.Name x pos')) spos.line X.env=pure true)
    (hf:X.fn x=true \/ X.env.scope.names.lookup x=some .local:=by first | exact .inl rfl | exact .inr rfl | assumption)
    (hs:∀ x,foldedSetIterable iter X.env x=pure x:=by intro _;rfl) :
    PS X (.Assign [.Name x pos'] (.ListComp elt [⟨tg,iter,ifs,0⟩] scope pos) spos) (Q7 (yF wi tgs.length fr g tt te) (tM i)):=by
  intro pins s σ H D I h
  have chk':=chk
  simp only [gR,Bool.and_eq_true,List.all_eq_true] at chk'
  obtain⟨⟨⟨⟨c1,c2⟩,c3⟩,c4⟩,c5⟩:=chk'
  obtain⟨cl,ecl,hcl1,hcl2⟩:=tO (scope:=scope) (env:=X.env) fun n hn=>I.ok.has n (by have:=c3 _ hn;show X.env.scope.names.lookup n=_ \/ X.env.scope.names.lookup n=_;simpa using this)
  rw [exec_Assign_Name_used _ _ _ _ hsw]
  refine wpAny_bind (wpAny_standAt (wpAny_bind ?_))
  show wpAny _ X.A (do let _ <- comprehension (.ListComp elt [⟨tg,iter,ifs,0⟩] scope pos) scope X.env _ (newList []) false (eval iter X.env) (some (assign (.Name x pos') X.env))) _ _ s
  refine wpAny_bind (wpAny_mono (wpAny_comprehension_free (use:=some (assign (.Name x pos') X.env)) (Q:=fun _ s'=>SP X pins D .next s') rfl hs ecl (by simpa using c1) (fun x hx hl=>by have:=c5 x hx;rw [hl] at this;simpa using this)
    (thn (hi pins s σ H _ I h) fun x s1 h1=>thn h1 fun itv s2 h2=>?_)) (fun _ s' hq=>wpAny_pure (wpAny_pure hq)) fun _ _ e=>e)
  obtain⟨it,fp,tn,J,H2,rfl,I2,T,st2,f2,rd⟩:=h2
  refine zV (RR:=fun acc C=>compPost (model X.prog X.w) X.A X.xe (some (assign (.Name _ pos') X.env)) (fun _ s'=>SP X pins D .next s') acc C) I2 T st2 f2 hc chk hcl1 hcl2 hg ht he rd ?_
  intro Da C s' Hend m I' hn hf' hL hsz hcs hps q
  show wpAny _ X.A (assign (.Name _ pos') X.env (.ref Da)) _ _ s'
  refine wpAny_assign_Name (uY I' hN hi' hx (v:=.ref Da) (u:=.ref Da) rfl (fun s'' I'' ⟨a,hsa,ha⟩=>?_) hf)
  have hCa:C ≠ a:=by
    rcases ha with z | z
    . rw [z];exact hL
    . exact fun e=>hcs _ _ z e.symm
  exact⟨m,hn.sameBut hsa hCa,fun h' hs'=>⟨_,Hend,I''.turned (t':=s''.toks) (fun b o hb e=>hs'.extBut b o hb e) hf' hL (.inr hsz) hcs hps,q⟩⟩
end
noncomputable def Ite (K:Frag) (a:Addr):It :=
  ⟨fun i H=>∃ xs x,SqL K H a xs /\ xs[i]? = some x,fun i H x H'=>∃ p y,H p=none /\ x=.ref p /\ (∀ xs,SqL K H a xs->xs[i]? = some y) /\ H'=upd H p (.tup [.int (i:Int),y]),fun i H=>∃ xs,SqL K H a xs /\ xs.length <= i⟩
theorem P9 {P:Program}{w:World}{K:Frag}{elts:List Expr}{k1:Nat}{pos:Pos}(a e it:Addr) (hne:e ≠ it) :
    xQ P w K (.Tuple elts k1 pos) (Ite K a) [e,it] e (fun i h=>(∃ old,IsEnum h e it i old) /\ h.IsListIter it a i) where
  mem:=by simp
  obj:=fun i h st b hb=>by
    obtain⟨⟨old,he⟩,o,e',c,d⟩:=st
    rcases List.mem_cons.mp hb with z | z
    . subst z;exact⟨_,he,fun v q=>by cases q⟩
    . have z:b=it:=by simpa using z
      subst z;exact⟨o,e',fun v q=>by rw [d] at q;cases q⟩
  keep:=fun i h h' st k=>⟨let ⟨old,he⟩:=st.1;⟨old,k e (by simp) _ he⟩,st.2.at fun o q=>k it (by simp) o q⟩
  item:=by
    intro X hP hw hK hc i pins s σ H E I hf st hg
    subst hP hw hK
    obtain⟨xs,x,hq,hx⟩:=hg
    obtain⟨its,rv,p,hz⟩:=I.list hq
    obtain⟨u,hu,ru⟩:=rv.get hx
    obtain⟨⟨old,he⟩,hit⟩:=st
    have fe:=hf e (by simp)
    have fi:=hf it (by simp)
    refine wpAny_pyNext_enum_item he hit p.isList (x:=u) (by simpa using hu) hne fun h' ho hit' hT hsz hk=>?_
    refine⟨_,rfl,wpAny_letOwnedTupleGo_enum (s:={ s with heap:=h',toks:=s.toks + 1 }) ho fun h'' he'' hs''=>?_⟩
    have hfr:H s.heap.objs.size=none:=I.fresh
    have lt:∀ b o,s.heap.get? b=some o->b ≠ s.heap.objs.size:=fun b o q=>Nat.ne_of_lt (Heap.lt_size q)
    have kp:∀ b o,b ≠ e->b ≠ it->s.heap.get? b=some o->h''.get? b=some o:=fun b o h1 h2 q=>(hs''.2 b h1).trans (hk b o h1 h2 q)
    have hee:e ≠ s.heap.objs.size:=lt _ _ he
    have nch:∀ b u,H b=some u->b ≠ e /\ b ≠ it:=fun b u q=>⟨fun z=>(by rw [z,fe.1] at q;cases q),fun z=>(by rw [z,fi.1] at q;cases q)⟩
    refine⟨.ref s.heap.objs.size,upd H s.heap.objs.size (.tup [.int (i:Int),x]),?_,rfl,⟨_,x,hfr,rfl,fun ys hy=>by rw [I.list_inj hy hq];exact hx,rfl⟩,⟨⟨_,by simpa using he''⟩,hit'.at fun o q=>(hs''.2 it (Ne.symm hne)).trans q⟩,fun b hb=>?_⟩
    . refine Inv.step (s:=s) (h':=h'') (t':=s.toks + 1) (H':=upd H s.heap.objs.size (.tup [.int (i:Int),x])) (g':=s.gens) (d':=s.drawn) (ch:=[e,it]) I (fun b hb=>?_) (fun b o _ _ hc q _=>kp b o (fun z=>hc (by simp [z])) (fun z=>hc (by simp [z])) q) (fun b o _ _ hc q _=>⟨o.slots,kp b o (fun z=>hc (by simp [z])) (fun z=>hc (by simp [z])) q⟩)
        (fun b o _ q n=>by rw [aX (lt b o q)];exact n) (fun b o hc q=>⟨o,kp b o (fun z=>hc (by simp [z])) (fun z=>hc (by simp [z])) q⟩)
        (fun b ys q=>by rw [aX (bI q hfr)];exact q) (fun b o u q=>by rw [aX (bI q hfr)];exact q) (fun b ps q=>⟨#[],by rw [aX (bI q hfr),q];simp⟩) (fun m hm=>?_) (fun b u q=>?_) I.bare
      . rcases List.mem_cons.mp hb with z | z
        . subst z;exact⟨fe.2.2.2.1,fe.2.1,fe.2.2.2.2.1,fe.2.2.2.2.2⟩
        . have z:b=it:=by simpa using z
          subst z;exact⟨fi.2.2.2.1,fi.2.1,fi.2.2.2.2.1,fi.2.2.2.2.2⟩
      . obtain⟨o,es,ep,ho,r⟩:=hm
        exact⟨o,es,ep,kp _ o (Ne.symm fe.2.1) (Ne.symm fi.2.1) ho,r⟩
      . by_cases hb:b=s.heap.objs.size
        . subst hb
          rw [aY] at q;cases q
          refine⟨by show 2 <= sizeLine;decide,[.int (i:Int) s.toks,u],.cons ⟨_,rfl⟩ (.cons ru .nil),_,(hs''.2 _ (Ne.symm hee)).trans hT,rfl,_,rfl⟩
        . rw [aX hb] at q
          refine (I.hok b u q).stay (fun c v hc z=>?_) (fun c z=>by rw [aX (bI z hfr)];exact z) fun c ys z=>by rw [aX (bI z hfr)];exact z
          rcases hc with y | y
          . rw [y] at z ⊢;exact kp _ _ (nch b u q).1 (nch b u q).2 z
          . exact kp _ _ (nch c _ y).1 (nch c _ y).2 z
    . have hb':b < s.heap.objs.size:=by
        rcases List.mem_cons.mp hb with z | z
        . subst z;exact Heap.lt_size he
        . have z:b=it:=by simpa using z
          subst z;obtain⟨o,q,_⟩:=hit;exact Heap.lt_size q
      rw [aX (Nat.ne_of_lt hb')]
      exact (hf b hb).1
  done:=by
    intro X hP hw hK hc i pins s σ H E I hf st hg
    subst hP hw hK
    obtain⟨xs,hq,hx⟩:=hg
    obtain⟨its,rv,p,hz⟩:=I.list hq
    obtain⟨⟨old,he⟩,hit⟩:=st
    obtain⟨f0,f1,f2,f3,f4,f5⟩:=hf it (by simp)
    have hl:=rv.length
    exact wpAny_pyNext_enum_end (I.ok.hd hc) he hit p.isList (by simp;omega) fun h' eb=>⟨rfl,I.turned (t':=s.toks) (fun b o hb e=>eb b o hb e) f0 f1 f3 f4 f5⟩
  self:=fun _ _ _ _ _ st h=>wpAny_pyIter_enum st.1.choose_spec h
section
variable {X:Cx}{tg:Expr}{elts:List Expr}{k1:Nat}{tpos:Pos}
noncomputable def Z5g (K:Frag) (ta:TA):TI:=fun σ H R=>ta σ H fun vs H1=>∃ a,vs=[.ref a] /\ (∃ xs,SqL K H1 a xs) /\ R (Ite K a) H1
theorem Z2s {l:Expr}{ta:TA}{p pos:Pos}(hg:Gl X "enumerate") (hm:X.mg "enumerate" = none) (ha:PA X [l] ta) (hs:starEach [l] X.env=[(false,eval l X.env)]:=by rfl) :
    PI X (.Tuple elts k1 tpos) (.Call (.Name "enumerate" p) [l] [] pos) (Z5g X.K ta):=by
  intro pins s σ H R I h
  refine Call_ (kU I hg hm PyProof.Rows.boot_enumerate (PyProof.Rows.callWith_type1 (thn (ha pos pins s σ H _ I h) fun us s1 ⟨vs,H1,I1,r1,q1⟩=>?_) hs rfl))
  obtain⟨a,rfl,⟨xs,hq⟩,q⟩:=q1
  cases r1 with
  | cons r rr =>
    cases rr
    cases r
    obtain⟨its,rv,pl,hz⟩:=I1.list hq
    refine call_enumerate_list pl.isList fun h' he hit hsz hk=>?_
    refine wpAny_pyIter_enum (s:={ s1 with heap:=h' }) he ?_
    have I2:Inv X pins σ H1 { s1 with heap:=h' }:=I1.kept (t':=s1.toks) hk
    refine⟨s1.heap.objs.size + 1,[s1.heap.objs.size + 1,s1.heap.objs.size],_,_,H1,rfl,I2,P9 a _ _ (Nat.succ_ne_self _),⟨⟨_,he⟩,hit⟩,fun b hb=>?_,q⟩
    have hb':s1.heap.objs.size <= b:=by
      rcases List.mem_cons.mp hb with z | z
      . rw [z];exact Nat.le_succ _
      . have z:b=s1.heap.objs.size:=by simpa using z
        rw [z];exact Nat.le_refl _
    exact I1.fpOk hb' (I1.hok.fresh hb')
end
end L2
namespace PD
open PySem PySem.Spec PyProof.Rows L2
inductive D where
  | non | bl (b:Bool) | int (i:Int) | str (x:Str) | tup (xs:List D) | lst (xs:List D) | obj (C:Addr) (ns:List Str) (xs:List D) | dk (ks:List Key) (xs:List D) | dt (ks:List (List Key)) (xs:List D) | exc (C:Addr)
noncomputable def Z59 (a:Addr) (cls:Value):Heap->Prop:=fun h=>∃ oe vs,h.get? a=some oe /\ oe.cls=cls /\ oe.data=.fields vs
mutual
noncomputable def flat:D->Bool
  | .non=>true
  | .bl _=>true
  | .int _=>true
  | .str _=>true
  | .tup xs=>flats xs
  | .lst _=>false
  | .obj _ _ _=>false
  | .dk _ _=>false
  | .dt _ _=>false
  | .exc _=>false
noncomputable def flats:List D->Bool
  | []=>true
  | x :: r=>flat x && flats r
end
noncomputable def FzL (K:Frag) (H:Hp) (a:Addr) (vs:List V):Prop:=(∃ o,H a=some (.frz o (.lst vs))) \/
    ∃ (o:Obj) (its:Array Value) (n:Nat),K.lookup a=some o /\ o.cls=.type "list" /\ o.dict=none /\ o.data=.seq its n /\ its.size <= sizeLine /\ Vals vs its.toList
theorem FzL.sq {K:Frag}{H:Hp}{a:Addr}{vs:List V}(h:FzL K H a vs):SqL K H a vs:=by
  rcases h with ⟨o,h⟩ | h
  . exact .inl (.inr ⟨o,h⟩)
  . exact .inr h
theorem Z04 {K:Frag}{H:Hp}{a:Addr}{vs:List V}(h:SqL K H a vs):H a=some (.lst vs) \/ FzL K H a vs:=by
  rcases h with (h | ⟨o,h⟩) | h
  . exact .inl h
  . exact .inr (.inl ⟨o,h⟩)
  . exact .inr (.inr h)
mutual
noncomputable def Rep (K:Frag) (st:Bool) (H:Hp):D->V->List Addr->Prop
  | .non,v,fp=>v=.non /\ fp=[]
  | .bl b,v,fp=>v=.bl b /\ fp=[]
  | .int i,v,fp=>v=.int i /\ fp=[]
  | .str x,v,fp=>v=.str x /\ fp=[]
  | .tup ds,v,fp=>∃ a vs,v=.ref a /\ SqT K H a vs /\ Reps K st H ds vs fp
  | .lst ds,v,fp=>∃ a vs fp',v=.ref a /\ Reps K st H ds vs fp' /\ ((fp=a :: fp' /\ H a=some (.lst vs)) \/ (st=false /\ fp=fp' /\ FzL K H a vs))
  | .obj C ns ds,v,fp=>∃ a dx vs fp',v=.ref a /\ fp=a :: fp' /\ H a=some (.ins C dx (ns.zip vs)) /\ ns.length=vs.length /\ Reps K st H ds vs fp'
  | .dk ks ds,v,fp=>∃ a vs fp',v=.ref a /\ fp=a :: fp' /\ H a=some (.dK (ks.zip vs)) /\ ks.length=vs.length /\ Reps K st H ds vs fp'
  | .dt ks ds,v,fp=>∃ a es ep vs fp',v=.ref a /\ es.map (·.1)=ks /\ es.map (·.2.2)=vs /\ (∀ e ∈ es,SqT K H e.2.1 (e.1.map kV)) /\ Reps K st H ds vs fp' /\ ((fp=a :: fp' /\ H a=some (.dE es ep)) \/ (st=false /\ fp=fp' /\ ∃ o,H a=some (.frz o (.dE es ep))))
  | .exc C,v,fp=>∃ a,v=.ref a /\ fp=[a] /\ H a=some (.ext (Z59 a (.ref C)))
noncomputable def Reps (K:Frag) (st:Bool) (H:Hp):List D->List V->List Addr->Prop
  | [],vs,fp=>vs=[] /\ fp=[]
  | d :: ds,vs,fp=>∃ v r f1 f2,vs=v :: r /\ fp=f1 ++ f2 /\ Rep K st H d v f1 /\ Reps K st H ds r f2
end
section
variable {K:Frag}{st:Bool}{H H':Hp}
structure Kp (fp:List Addr) (H H':Hp):Prop where
  fps:∀ b ∈ fp,∀ o,H b=some o->H' b=some o
  tup:∀ b xs,H b=some (.tup xs)->H' b=some (.tup xs)
  frz:∀ b o u,H b=some (.frz o u)->H' b=some (.frz o u)
theorem Kp.same (e:Same H H') (fp:List Addr):Kp fp H H':=⟨fun b _ o h=>e b o h,fun b xs h=>e _ _ h,fun b o u h=>e _ _ h⟩
theorem Kp.sub {fp fp':List Addr}(k:Kp fp H H') (h:∀ b ∈ fp',b ∈ fp):Kp fp' H H':=⟨fun b hb=>k.fps b (h b hb),k.tup,k.frz⟩
theorem Kp.upd {a:Addr}{o o':HO}{fp:List Addr}(h:H a=some o) (hm:∀ xs,o ≠ .tup xs) (hf:∀ x u,o ≠ .frz x u) (hn:a ∉ fp):Kp fp H (L2.upd H a o') :=
  ⟨fun b hb u e => by have hba : b ≠ a := (fun z => hn (by rw [<- z]; exact hb)); rw [aX hba]; exact e,
   fun b xs e=>by rw [aX (fun z=>by rw [z,h] at e;exact hm xs (Option.some.inj e))];exact e,
   fun b x u e=>by rw [aX (fun z=>by rw [z,h] at e;exact hf x u (Option.some.inj e))];exact e⟩
theorem iY {fp:List Addr}(k:Kp fp H H') {a:Addr}{xs:List V}(h:SqT K H a xs):SqT K H' a xs:=by
  rcases h with (h | ⟨o,h⟩) | h
  . exact .inl (.inl (k.tup _ _ h))
  . exact .inl (.inr ⟨o,k.frz _ _ _ h⟩)
  . exact .inr h
theorem Z4f {fp:List Addr}(k:Kp fp H H') {a:Addr}{xs:List V}(h:FzL K H a xs):FzL K H' a xs:=by
  rcases h with ⟨o,h⟩ | h
  . exact .inl ⟨o,k.frz _ _ _ h⟩
  . exact .inr h
mutual
theorem Rep.keep:∀ (d:D) (v:V) (fp:List Addr),Kp fp H H'->Rep K st H d v fp->Rep K st H' d v fp
  | .non,v,fp,_,h=>by simpa only [Rep] using h
  | .bl b,v,fp,_,h=>by simpa only [Rep] using h
  | .int i,v,fp,_,h=>by simpa only [Rep] using h
  | .str x,v,fp,_,h=>by simpa only [Rep] using h
  | .tup ds,v,fp,k,h=>by
    simp only [Rep] at h ⊢
    obtain⟨a,vs,e,hs,hr⟩:=h
    exact⟨a,vs,e,iY k hs,Reps.keep ds vs fp k hr⟩
  | .lst ds,v,fp,k,h=>by
    simp only [Rep] at h ⊢
    obtain⟨a,vs,fp',e,hr,hs⟩:=h
    rcases hs with ⟨rfl,hs⟩ | ⟨h1,rfl,hs⟩
    . exact⟨a,vs,fp',e,Reps.keep ds vs fp' (k.sub fun b hb=>List.mem_cons_of_mem _ hb) hr,.inl ⟨rfl,k.fps a List.mem_cons_self _ hs⟩⟩
    . exact⟨a,vs,fp,e,Reps.keep ds vs fp k hr,.inr ⟨h1,rfl,Z4f k hs⟩⟩
  | .obj C ns ds,v,fp,k,h=>by
    simp only [Rep] at h ⊢
    obtain⟨a,dx,vs,fp',e,rfl,hs,hl,hr⟩:=h
    exact⟨a,dx,vs,fp',e,rfl,k.fps a List.mem_cons_self _ hs,hl,Reps.keep ds vs fp' (k.sub fun b hb=>List.mem_cons_of_mem _ hb) hr⟩
  | .dk ks ds,v,fp,k,h=>by
    simp only [Rep] at h ⊢
    obtain⟨a,vs,fp',e,rfl,hs,hl,hr⟩:=h
    exact⟨a,vs,fp',e,rfl,k.fps a List.mem_cons_self _ hs,hl,Reps.keep ds vs fp' (k.sub fun b hb=>List.mem_cons_of_mem _ hb) hr⟩
  | .dt ks ds,v,fp,k,h=>by
    simp only [Rep] at h ⊢
    obtain⟨a,es,ep,vs,fp',e,hk,hv,ht,hr,hs⟩:=h
    rcases hs with ⟨rfl,hs⟩ | ⟨h1,rfl,o,hs⟩
    . exact⟨a,es,ep,vs,fp',e,hk,hv,fun e he=>iY k (ht e he),Reps.keep ds vs fp' (k.sub fun b hb=>List.mem_cons_of_mem _ hb) hr,.inl ⟨rfl,k.fps a List.mem_cons_self _ hs⟩⟩
    . exact⟨a,es,ep,vs,fp,e,hk,hv,fun e he=>iY k (ht e he),Reps.keep ds vs fp k hr,.inr ⟨h1,rfl,o,k.frz _ _ _ hs⟩⟩
  | .exc C,v,fp,k,h=>by
    simp only [Rep] at h ⊢
    obtain⟨a,e,rfl,hs⟩:=h
    exact⟨a,e,rfl,k.fps a List.mem_cons_self _ hs⟩
theorem Reps.keep:∀ (ds:List D) (vs:List V) (fp:List Addr),Kp fp H H'->Reps K st H ds vs fp->Reps K st H' ds vs fp
  | [],vs,fp,_,h=>by simpa only [Reps] using h
  | d :: ds,vs,fp,k,h=>by
    simp only [Reps] at h ⊢
    obtain⟨v,r,f1,f2,e1,rfl,h1,h2⟩:=h
    exact⟨v,r,f1,f2,e1,rfl,Rep.keep d v f1 (k.sub fun b hb=>List.mem_append_left _ hb) h1,Reps.keep ds r f2 (k.sub fun b hb=>List.mem_append_right _ hb) h2⟩
end
theorem Rep.same {d:D}{v:V}{fp:List Addr}(e:Same H H') (h:Rep K st H d v fp):Rep K st H' d v fp:=Rep.keep d v fp (Kp.same e fp) h
theorem Reps.same {ds:List D}{vs:List V}{fp:List Addr}(e:Same H H') (h:Reps K st H ds vs fp):Reps K st H' ds vs fp:=Reps.keep ds vs fp (Kp.same e fp) h
mutual
theorem Rep.dom:∀ (d:D) (v:V) (fp:List Addr),Rep K st H d v fp->∀ b ∈ fp,∃ o,H b=some o
  | .non,v,fp,h,b,hb=>by simp only [Rep] at h;rw [h.2] at hb;cases hb
  | .bl _,v,fp,h,b,hb=>by simp only [Rep] at h;rw [h.2] at hb;cases hb
  | .int _,v,fp,h,b,hb=>by simp only [Rep] at h;rw [h.2] at hb;cases hb
  | .str _,v,fp,h,b,hb=>by simp only [Rep] at h;rw [h.2] at hb;cases hb
  | .tup ds,v,fp,h,b,hb=>by
    simp only [Rep] at h
    obtain⟨a,vs,e,hs,hr⟩:=h
    exact Reps.dom ds vs fp hr b hb
  | .lst ds,v,fp,h,b,hb=>by
    simp only [Rep] at h
    obtain⟨a,vs,fp',e,hr,hs⟩:=h
    rcases hs with ⟨rfl,hs⟩ | ⟨_,rfl,hs⟩
    . rcases List.mem_cons.mp hb with z | z
      . exact⟨_,z ▸ hs⟩
      . exact Reps.dom ds vs fp' hr b z
    . exact Reps.dom ds vs fp hr b hb
  | .obj C ns ds,v,fp,h,b,hb=>by
    simp only [Rep] at h
    obtain⟨a,dx,vs,fp',e,rfl,hs,hl,hr⟩:=h
    rcases List.mem_cons.mp hb with z | z
    . exact⟨_,z ▸ hs⟩
    . exact Reps.dom ds vs fp' hr b z
  | .dk ks ds,v,fp,h,b,hb=>by
    simp only [Rep] at h
    obtain⟨a,vs,fp',e,rfl,hs,hl,hr⟩:=h
    rcases List.mem_cons.mp hb with z | z
    . exact⟨_,z ▸ hs⟩
    . exact Reps.dom ds vs fp' hr b z
  | .dt ks ds,v,fp,h,b,hb=>by
    simp only [Rep] at h
    obtain⟨a,es,ep,vs,fp',e,hk,hv,ht,hr,hs⟩:=h
    rcases hs with ⟨rfl,hs⟩ | ⟨_,rfl,o,hs⟩
    . rcases List.mem_cons.mp hb with z | z
      . exact⟨_,z ▸ hs⟩
      . exact Reps.dom ds vs fp' hr b z
    . exact Reps.dom ds vs fp hr b hb
  | .exc C,v,fp,h,b,hb=>by
    simp only [Rep] at h
    obtain⟨a,e,rfl,hs⟩:=h
    rw [List.mem_singleton.mp hb]
    exact⟨_,hs⟩
theorem Reps.dom:∀ (ds:List D) (vs:List V) (fp:List Addr),Reps K st H ds vs fp->∀ b ∈ fp,∃ o,H b=some o
  | [],vs,fp,h,b,hb=>by simp only [Reps] at h;rw [h.2] at hb;cases hb
  | d :: ds,vs,fp,h,b,hb=>by
    simp only [Reps] at h
    obtain⟨v,r,f1,f2,e1,rfl,h1,h2⟩:=h
    rcases List.mem_append.mp hb with z | z
    . exact Rep.dom d v f1 h1 b z
    . exact Reps.dom ds r f2 h2 b z
end
mutual
theorem Rep.flat:∀ (d:D) (v:V) (fp:List Addr),PD.flat d=true->Rep K st H d v fp->fp=[] /\ ∀ st',Rep K st' H d v []
  | .non,v,fp,_,h=>by simp only [Rep] at h ⊢;exact⟨h.2,fun _=>⟨h.1,trivial⟩⟩
  | .bl _,v,fp,_,h=>by simp only [Rep] at h ⊢;exact⟨h.2,fun _=>⟨h.1,trivial⟩⟩
  | .int _,v,fp,_,h=>by simp only [Rep] at h ⊢;exact⟨h.2,fun _=>⟨h.1,trivial⟩⟩
  | .str _,v,fp,_,h=>by simp only [Rep] at h ⊢;exact⟨h.2,fun _=>⟨h.1,trivial⟩⟩
  | .tup ds,v,fp,f,h=>by
    simp only [Rep] at h ⊢
    obtain⟨a,vs,e,hs,hr⟩:=h
    obtain⟨h1,h2⟩:=Reps.flat ds vs fp (by simpa only [PD.flat] using f) hr
    exact⟨h1,fun st'=>⟨a,vs,e,hs,h2 st'⟩⟩
  | .lst ds,v,fp,f,h=>by simp only [PD.flat] at f;cases f
  | .obj C ns ds,v,fp,f,h=>by simp only [PD.flat] at f;cases f
  | .dk ks ds,v,fp,f,h=>by simp only [PD.flat] at f;cases f
  | .dt ks ds,v,fp,f,h=>by simp only [PD.flat] at f;cases f
  | .exc C,v,fp,f,h=>by simp only [PD.flat] at f;cases f
theorem Reps.flat:∀ (ds:List D) (vs:List V) (fp:List Addr),flats ds=true->Reps K st H ds vs fp->fp=[] /\ ∀ st',Reps K st' H ds vs []
  | [],vs,fp,_,h=>by simp only [Reps] at h ⊢;exact⟨h.2,fun _=>⟨h.1,trivial⟩⟩
  | d :: ds,vs,fp,f,h=>by
    simp only [Reps] at h ⊢
    simp only [flats,Bool.and_eq_true] at f
    obtain⟨v,r,f1,f2,e1,rfl,h1,h2⟩:=h
    obtain⟨a1,a2⟩:=Rep.flat d v f1 f.1 h1
    obtain⟨b1,b2⟩:=Reps.flat ds r f2 f.2 h2
    subst a1 b1
    exact⟨rfl,fun st'=>⟨v,r,[],[],e1,rfl,a2 st',b2 st'⟩⟩
end
mutual
theorem Rep.weak:∀ (d:D) (v:V) (fp:List Addr),Rep K st H d v fp->Rep K false H d v fp
  | .non,v,fp,h=>by simpa only [Rep] using h
  | .bl _,v,fp,h=>by simpa only [Rep] using h
  | .int _,v,fp,h=>by simpa only [Rep] using h
  | .str _,v,fp,h=>by simpa only [Rep] using h
  | .tup ds,v,fp,h=>by
    simp only [Rep] at h ⊢
    obtain⟨a,vs,e,hs,hr⟩:=h
    exact⟨a,vs,e,hs,Reps.weak ds vs fp hr⟩
  | .lst ds,v,fp,h=>by
    simp only [Rep] at h ⊢
    obtain⟨a,vs,fp',e,hr,hs⟩:=h
    refine⟨a,vs,fp',e,Reps.weak ds vs fp' hr,?_⟩
    rcases hs with hs | ⟨_,h1,h2⟩
    . exact .inl hs
    . exact .inr ⟨trivial,h1,h2⟩
  | .obj C ns ds,v,fp,h=>by
    simp only [Rep] at h ⊢
    obtain⟨a,dx,vs,fp',e,h1,hs,hl,hr⟩:=h
    exact⟨a,dx,vs,fp',e,h1,hs,hl,Reps.weak ds vs fp' hr⟩
  | .dk ks ds,v,fp,h=>by
    simp only [Rep] at h ⊢
    obtain⟨a,vs,fp',e,h1,hs,hl,hr⟩:=h
    exact⟨a,vs,fp',e,h1,hs,hl,Reps.weak ds vs fp' hr⟩
  | .dt ks ds,v,fp,h=>by
    simp only [Rep] at h ⊢
    obtain⟨a,es,ep,vs,fp',e,hk,hv,ht,hr,hs⟩:=h
    exact⟨a,es,ep,vs,fp',e,hk,hv,ht,Reps.weak ds vs fp' hr,hs.imp id fun⟨_,h2⟩=>⟨by trivial,h2⟩⟩
  | .exc C,v,fp,h=>by simpa only [Rep] using h
theorem Reps.weak:∀ (ds:List D) (vs:List V) (fp:List Addr),Reps K st H ds vs fp->Reps K false H ds vs fp
  | [],vs,fp,h=>by simpa only [Reps] using h
  | d :: ds,vs,fp,h=>by
    simp only [Reps] at h ⊢
    obtain⟨v,r,f1,f2,e1,e2,h1,h2⟩:=h
    exact⟨v,r,f1,f2,e1,e2,Rep.weak d v f1 h1,Reps.weak ds r f2 h2⟩
end
theorem Reps.length:∀ {ds:List D}{vs:List V}{fp:List Addr},Reps K st H ds vs fp->vs.length=ds.length
  | [],vs,fp,h=>by simp only [Reps] at h;rw [h.1];rfl
  | d :: ds,vs,fp,h=>by
    simp only [Reps] at h
    obtain⟨v,r,f1,f2,e1,e2,h1,h2⟩:=h
    rw [e1,List.length_cons,List.length_cons,Reps.length h2]
theorem Reps.get:∀ {ds:List D}{vs:List V}{fp:List Addr}{i:Nat}{d:D},Reps K st H ds vs fp->ds[i]? = some d->∃ v f,vs[i]? = some v /\ Rep K st H d v f /\ (∀ b ∈ f,b ∈ fp) /\ (fp.Nodup->f.Nodup)
  | [],vs,fp,i,d,h,e=>by simp at e
  | d :: ds,vs,fp,i,d',h,e=>by
    simp only [Reps] at h
    obtain⟨v,r,f1,f2,rfl,rfl,h1,h2⟩:=h
    cases i with
    | zero =>
      simp at e
      subst e
      exact⟨v,f1,rfl,h1,fun b hb=>List.mem_append_left _ hb,fun nd=>(List.nodup_append.mp nd).1⟩
    | succ i =>
      obtain⟨w,f,e1,e2,e3,e4⟩:=Reps.get h2 (by simpa using e)
      exact⟨w,f,by simpa using e1,e2,fun b hb=>List.mem_append_right _ (e3 b hb),fun nd=>e4 (List.nodup_append.mp nd).2.1⟩
theorem Reps.snoc:∀ {ds:List D}{vs:List V}{fp fd:List Addr}{d:D}{v:V},Reps K st H ds vs fp->Rep K st H d v fd->Reps K st H (ds ++ [d]) (vs ++ [v]) (fp ++ fd)
  | [],vs,fp,fd,d,v,h,hd=>by
    simp only [Reps] at h
    obtain⟨rfl,rfl⟩:=h
    simp only [List.nil_append,Reps]
    exact⟨v,[],fd,[],rfl,(List.append_nil _).symm,hd,rfl,rfl⟩
  | d' :: ds,vs,fp,fd,d,v,h,hd=>by
    simp only [Reps] at h
    obtain⟨w,r,f1,f2,rfl,rfl,h1,h2⟩:=h
    simp only [List.cons_append,Reps]
    exact⟨w,r ++ [v],f1,f2 ++ fd,rfl,List.append_assoc ..,h1,Reps.snoc h2 hd⟩
theorem Reps.append:∀ {ds es:List D}{vs us:List V}{fp fd:List Addr},Reps K st H ds vs fp->Reps K st H es us fd->Reps K st H (ds ++ es) (vs ++ us) (fp ++ fd)
  | [],es,vs,us,fp,fd,h,hd=>by
    simp only [Reps] at h
    obtain⟨rfl,rfl⟩:=h
    exact hd
  | d' :: ds,es,vs,us,fp,fd,h,hd=>by
    simp only [Reps] at h
    obtain⟨w,r,f1,f2,rfl,rfl,h1,h2⟩:=h
    simp only [List.cons_append,Reps]
    exact⟨w,r ++ us,f1,f2 ++ fd,rfl,List.append_assoc ..,h1,Reps.append h2 hd⟩
theorem bW {ds:List D}{v:V}{fp:List Addr}(h:Rep K st H (.lst ds) v fp):∃ a vs fp',v=.ref a /\ SqL K H a vs /\ Reps K st H ds vs fp' /\ (∀ b ∈ fp',b ∈ fp):=by
  simp only [Rep] at h
  obtain⟨a,vs,fp',e,hr,hs⟩:=h
  rcases hs with ⟨rfl,hs⟩ | ⟨_,rfl,hs⟩
  . exact⟨a,vs,fp',e,SqL.of hs,hr,fun b hb=>List.mem_cons_of_mem _ hb⟩
  . exact⟨a,vs,fp,e,hs.sq,hr,fun b hb=>hb⟩
theorem mU {ds:List D}{v:V}{fp:List Addr}(h:Rep K true H (.lst ds) v fp):∃ a vs fp',v=.ref a /\ fp=a :: fp' /\ H a=some (.lst vs) /\ Reps K true H ds vs fp':=by
  simp only [Rep] at h
  obtain⟨a,vs,fp',e,hr,hs⟩:=h
  rcases hs with ⟨e1,hs⟩ | ⟨z,_⟩
  . exact⟨a,vs,fp',e,e1,hs,hr⟩
  . cases z
end
noncomputable abbrev Slot:=Option (Bool × D)
noncomputable abbrev En:=List Slot
noncomputable def EnvOk (K:Frag) (H:Hp) (σ:L2.St) (env:En) (F:Nat->List Addr):Prop :=
  ∀ i o d,env[i]? = some (some (o,d))->∃ v,σ[i]? = some (some v) /\ Rep K false H d v (F i)
theorem EnvOk.same {K:Frag}{H H':Hp}{σ:L2.St}{env:En}{F:Nat->List Addr}(h:EnvOk K H σ env F) (e:Same H H'):EnvOk K H' σ env F :=
  fun i o d q=>let ⟨v,h1,h2⟩:=h i o d q;⟨v,h1,h2.same e⟩
noncomputable def Cond (F:Nat->List Addr) (H:Hp) (m:Bool) (rs:List Nat) (fp:List Addr):Prop:=(∀ b ∈ fp,H b=none \/ ∃ r ∈ rs,b ∈ F r) /\ (m=true->fp.Nodup /\ ∀ b ∈ fp,H b=none)
theorem Cond.nil {F:Nat->List Addr}{H:Hp}{m:Bool}{rs:List Nat}:Cond F H m rs []:=⟨fun b hb=>(by cases hb),fun _=>⟨List.nodup_nil,fun b hb=>(by cases hb)⟩⟩
theorem Cond.back {F:Nat->List Addr}{H H':Hp}{m:Bool}{rs:List Nat}{fp:List Addr}(c:Cond F H' m rs fp) (e:Same H H'):Cond F H m rs fp :=
  ⟨fun b hb=>(c.1 b hb).imp (fun z=>e.free z) id,fun hm=>⟨(c.2 hm).1,fun b hb=>e.free ((c.2 hm).2 b hb)⟩⟩
noncomputable def tD (K:Frag) (m:Bool) (rs:List Nat) (f:En->Option D):TE:=fun σ H Q =>
  ∃ env F d,EnvOk K H σ env F /\ f env=some d /\ ∀ v H' fp,Same H H'->Rep K m H' d v fp->Cond F H m rs fp->Q v H'
noncomputable def tDT (K:Frag) (f:En->Option Bool):TT:=fun σ H Q =>
  ∃ env F b,EnvOk K H σ env F /\ f env=some b /\ ∀ H',Same H H'->Q b H'
noncomputable def tDA (K:Frag) (m:Bool) (rs:List Nat) (f:En->Option (List D)):TA:=fun σ H Q =>
  ∃ env F ds,EnvOk K H σ env F /\ f env=some ds /\ ∀ vs H' fp,Same H H'->Reps K m H' ds vs fp->Cond F H m rs fp->Q vs H'
noncomputable def QE (X:Cx) (m:Bool) (rs:List Nat) (e:Expr) (f:En->Option D):Prop:=PE X e (tD X.K m rs f)
noncomputable def QT (X:Cx) (e:Expr) (f:En->Option Bool):Prop:=PT X e (tDT X.K f)
noncomputable def QW (X:Cx) (e:Expr) (f:En->Option Bool):Prop:=PW X e (tDT X.K f)
noncomputable def QA (X:Cx) (m:Bool) (rs:List Nat) (es:List Expr) (f:En->Option (List D)):Prop:=PA X es (tDA X.K m rs f)
section
variable {X:Cx}{m m':Bool}{rs rs':List Nat}{e a b c:Expr}{es rest:List Expr}{f fa fb fc:En->Option D}{g ga gb:En->Option Bool}{pos:Pos}
theorem QE.mk {t:TE}(h:PE X e t) (hi:∀ σ H Q,tD X.K m rs f σ H Q->t σ H Q):QE X m rs e f:=fun pins s σ H Q I q=>h pins s σ H Q I (hi σ H Q q)
theorem QT.mk {t:TT}(h:PT X e t) (hi:∀ σ H Q,tDT X.K g σ H Q->t σ H Q):QT X e g:=fun pins s σ H Q I q=>h pins s σ H Q I (hi σ H Q q)
theorem QW.mk {t:TT}(h:PW X e t) (hi:∀ σ H Q,tDT X.K g σ H Q->t σ H Q):QW X e g:=fun whole pins s σ H Q I q=>h whole pins s σ H Q I (hi σ H Q q)
theorem QW.qt (h:QW X e g):QT X e g:=h.pt
noncomputable def aB (i:Nat):En->Option D:=fun env=>(env[i]?).join.map (·.2)
noncomputable def fC (d:D):En->Option D:=fun _=>some d
noncomputable def fI2 (C:Int->Int->Prop) (g:Int->Int->D) (fa fb:En->Option D):En->Option D:=fun env =>
  match fa env,fb env with
  | some (.int i),some (.int j)=>open Classical in if C i j then some (g i j) else none
  | _,_=>none
noncomputable def fI0 (g:Int->Int->D) (fa fb:En->Option D):En->Option D:=fun env =>
  match fa env,fb env with
  | some (.int i),some (.int j)=>some (g i j)
  | _,_=>none
noncomputable def bF (f:En->Option D):En->Option D:=fun env=>match f env with
  | some d=>if flat d=true then some d else none
  | none=>none
noncomputable def fB (f:En->Option D):En->Option Bool:=fun env=>match f env with
  | some (.bl b)=>some b
  | _=>none
noncomputable def mP (f:En->Option Bool):En->Option D:=fun env=>(f env).map .bl
noncomputable def kG (f g:En->Option Bool):En->Option Bool:=fun env=>match f env with
  | some true=>g env
  | some false=>some false
  | none=>none
noncomputable def fOr (f g:En->Option Bool):En->Option Bool:=fun env=>match f env with
  | some false=>g env
  | some true=>some true
  | none=>none
noncomputable def mQ (f:En->Option Bool):En->Option Bool:=fun env=>(f env).map (!·)
noncomputable def aL:En->Option (List D):=fun _=>some []
noncomputable def aC (f:En->Option D) (g:En->Option (List D)):En->Option (List D):=fun env=>match f env,g env with
  | some d,some ds=>some (d :: ds)
  | _,_=>none
noncomputable def kF (g:En->Option (List D)):En->Option D:=fun env=>match g env with
  | some ds=>if ds.length <= 1000 then some (.tup ds) else none
  | none=>none
noncomputable def jN (g:En->Option (List D)):En->Option D:=fun env=>match g env with
  | some ds=>if ds.length <= 1000 then some (.lst ds) else none
  | none=>none
theorem bH {K:Frag}{H:Hp}{i:Int}{v:V}{fp:List Addr}(h:Rep K m H (.int i) v fp):v=.int i:=by simp only [Rep] at h;exact h.1
theorem iG {K:Frag}{H:Hp}{i:Bool}{v:V}{fp:List Addr}(h:Rep K m H (.bl i) v fp):v=.bl i:=by simp only [Rep] at h;exact h.1
theorem gE {K:Frag}{H:Hp}{i:Str}{v:V}{fp:List Addr}(h:Rep K m H (.str i) v fp):v=.str i:=by simp only [Rep] at h;exact h.1
theorem gP {K:Frag}{H:Hp}{v:V}{fp:List Addr}(h:Rep K m H .non v fp):v=.non:=by simp only [Rep] at h;exact h.1
theorem fS {K:Frag}{H:Hp}{i:Int}:Rep K m H (.int i) (.int i) []:=by simp only [Rep];exact⟨trivial,trivial⟩
theorem sV {K:Frag}{H:Hp}{i:Bool}:Rep K m H (.bl i) (.bl i) []:=by simp only [Rep];exact⟨trivial,trivial⟩
theorem Z0T {K:Frag}{H:Hp}{i:Str}:Rep K m H (.str i) (.str i) []:=by simp only [Rep];exact⟨trivial,trivial⟩
theorem wW {K:Frag}{H:Hp}:Rep K m H .non .non []:=by simp only [Rep];exact⟨trivial,trivial⟩
theorem aA (i:Nat) {x:Str}(hN:X.N[i]? = some x:=by rfl) (hv:Vis X.env.scope x:=by first | exact Or.inl rfl | exact Or.inr (Or.inl rfl) | exact Or.inr (Or.inr rfl)) (hd:(x == ("__debug__" : Str))=false:=by decide) (hcd:(x == ("__classdict__" : Str))=false:=by decide) :
    QE X false [i] (.Name x pos) (aB i) :=
  .mk (jA hN hv hd hcd) fun σ H Q ⟨env,F,d,ok,e,q⟩=>by
    unfold aB at e
    cases h1:env[i]? with
    | none=>rw [h1] at e;cases e
    | some o =>
      cases o with
      | none=>rw [h1] at e;cases e
      | some p =>
        rw [h1] at e
        obtain⟨ow,d'⟩:=p
        have e':d'=d:=Option.some.inj e
        subst e'
        obtain⟨v,hv,hr⟩:=ok i ow d' h1
        exact⟨v,hv,q v H _ (Same.refl H) hr ⟨fun b hb=>.inr ⟨i,by simp,hb⟩,fun z=>(by cases z)⟩⟩
theorem aG {i:Int}{j}:QE X m rs (.Constant (.int i) j pos) (fC (.int i)):=.mk pe_int fun σ H Q ⟨env,F,d,ok,e,q⟩=>by cases e;exact q _ _ _ (Same.refl H) fS .nil
theorem qQ {i:Bool}{j}:QE X m rs (.Constant (.bool i) j pos) (fC (.bl i)):=.mk Z51 fun σ H Q ⟨env,F,d,ok,e,q⟩=>by cases e;exact q _ _ _ (Same.refl H) sV .nil
theorem cT {i:Str}{j}:QE X m rs (.Constant (.str i) j pos) (fC (.str i)):=.mk Z3U fun σ H Q ⟨env,F,d,ok,e,q⟩=>by cases e;exact q _ _ _ (Same.refl H) Z0T .nil
theorem Z0r {j}:QE X m rs (.Constant .none j pos) (fC .non):=.mk Z3W fun σ H Q ⟨env,F,d,ok,e,q⟩=>by cases e;exact q _ _ _ (Same.refl H) wW .nil
theorem QE.weak (h:QE X true [] e f):QE X false rs e f:=.mk h fun σ H Q ⟨env,F,d,ok,e,q⟩ =>
  ⟨env,F,d,ok,e,fun v H' fp s r c=>q v H' fp s (Rep.weak _ _ _ r) ⟨fun b hb=>(c.1 b hb).imp id fun⟨r,hr,_⟩=>(by simp at hr),fun z=>(by cases z)⟩⟩
theorem QE.more (h:QE X false rs e f) (hs:∀ r ∈ rs,r ∈ rs'):QE X false rs' e f:=.mk h fun σ H Q ⟨env,F,d,ok,e,q⟩ =>
  ⟨env,F,d,ok,e,fun v H' fp s r c=>q v H' fp s r ⟨fun b hb=>(c.1 b hb).imp id fun⟨r,hr,z⟩=>⟨r,hs r hr,z⟩,c.2⟩⟩
theorem QE.flat (h:QE X m' rs e f):QE X m rs' e (bF f):=.mk h fun σ H Q ⟨env,F,d,ok,e,q⟩=>by
  unfold bF at e
  cases h1:f env with
  | none=>rw [h1] at e;cases e
  | some d' =>
    rw [h1] at e
    by_cases hf:PD.flat d'=true
    . simp only [hf,if_true] at e
      cases e
      refine⟨env,F,_,ok,h1,fun v H' fp s r c=>?_⟩
      obtain⟨e1,e2⟩:=Rep.flat _ _ _ hf r
      exact q v H' [] s (e2 _) .nil
    . simp only [hf] at e
      cases e
theorem two {K:Frag}{m1 m2:Bool}{rs1 rs2:List Nat}{σ:L2.St}{H:Hp}{env:En}{F:Nat->List Addr}{x y:D}{R:V->V->Hp->Prop}(ok:EnvOk K H σ env F) (ea:fa env=some x) (eb:fb env=some y)
    (h:∀ v u H' f1 f2,Same H H'->Rep K m1 H' x v f1->Rep K m2 H' y u f2->Cond F H m1 rs1 f1->Cond F H m2 rs2 f2->R v u H'):tD K m1 rs1 fa σ H fun v H1=>tD K m2 rs2 fb σ H1 fun u H2=>R v u H2 :=
  ⟨env,F,x,ok,ea,fun v H1 f1 s1 r1 c1=>⟨env,F,y,ok.same s1,eb,fun u H2 f2 s2 r2 c2=>h v u H2 f1 f2 (s1.trans s2) (r1.same s2) r2 c1 (c2.back s1)⟩⟩
variable {m1 m2:Bool}{rs1 rs2:List Nat}
theorem aN {op:Operator}{C:Int->Int->Prop}{g:Int->Int->Int}(ho:OpR X (binaryOp op) (rI C fun i j=>.int (g i j))) (ha:QE X m1 rs1 a fa) (hb:QE X m2 rs2 b fb):QE X m rs (.BinOp a op b pos) (fI2 C (fun i j=>.int (g i j)) fa fb) :=
  .mk (pe_op ho ha hb) fun σ H Q ⟨env,F,d,ok,e,q⟩=>by
    unfold fI2 at e
    split at e
    . rename_i i j ea eb
      split at e
      . rename_i hc
        cases e
        refine two ok ea eb fun v u H' f1 f2 s r1 r2 _ _=>?_
        rw [bH r1,bH r2]
        exact⟨i,j,rfl,rfl,hc,q _ _ _ s fS .nil⟩
      . cases e
    . cases e
theorem aT {op:Operator}{g:Int->Int->Int}(ho:OpR X (binaryOp op) (rI0 fun i j=>.int (g i j))) (ha:QE X m1 rs1 a fa) (hb:QE X m2 rs2 b fb):QE X m rs (.BinOp a op b pos) (fI0 (fun i j=>.int (g i j)) fa fb) :=
  .mk (pe_op ho ha hb) fun σ H Q ⟨env,F,d,ok,e,q⟩=>by
    unfold fI0 at e
    split at e
    . rename_i i j ea eb
      cases e
      refine two ok ea eb fun v u H' f1 f2 s r1 r2 _ _=>?_
      rw [bH r1,bH r2]
      exact⟨i,j,rfl,rfl,q _ _ _ s fS .nil⟩
    . cases e
theorem Z2e {op:CmpOp}{g:Int->Int->Bool}(ho:OpR X (compareOp op) (rI0 fun i j=>.bl (g i j))) (ha:QE X m1 rs1 a fa) (hb:QE X m2 rs2 b fb) (hm:behindInMarks op b=false):QE X m rs (.Compare a [op] [b] pos) (fI0 (fun i j=>.bl (g i j)) fa fb) :=
  .mk (wP ho ha hb hm) fun σ H Q ⟨env,F,d,ok,e,q⟩=>by
    unfold fI0 at e
    split at e
    . rename_i i j ea eb
      cases e
      refine two ok ea eb fun v u H' f1 f2 s r1 r2 _ _=>?_
      rw [bH r1,bH r2]
      exact⟨i,j,rfl,rfl,q _ _ _ s sV .nil⟩
    . cases e
theorem Z0h (h:QE X m rs e f) (he:∀ whole,isTrue e X.env whole=(do let v <- whole;standAt e.pos;holding [v] (truthy v)):=by intro _;rfl):QT X e (fB f) :=
  .mk (Z3P h he) fun σ H Q ⟨env,F,b,ok,e,q⟩=>by
    unfold fB at e
    split at e
    . rename_i b' e1
      cases e
      refine⟨env,F,_,ok,e1,fun v H' fp s r _=>?_⟩
      rw [iG r]
      exact⟨_,rfl,q H' s⟩
    . cases e
theorem sJ {op:CmpOp}{r:R2}(ho:OpR X (compareOp op) r) (ha:QE X m1 rs1 a fa) (hb:QE X m2 rs2 b fb) (hm:behindInMarks op b=false)
    (hr:∀ env x y K H v u f1 f2 Q bb,g env=some bb->fa env=some x->fb env=some y->Rep K m1 H x v f1->Rep K m2 H y u f2->K=X.K->Q (V.bl bb) H->r v u H Q) (hn:∀ env bb,g env=some bb->∃ x y,fa env=some x /\ fb env=some y):QT X (.Compare a [op] [b] pos) g :=
  .mk (Z2k ho ha hb hm) fun σ H Q ⟨env,F,bb,ok,e,q⟩=>by
    obtain⟨x,y,ea,eb⟩:=hn env bb e
    exact two ok ea eb fun v u H' f1 f2 s r1 r2 _ _=>hr env x y _ H' v u f1 f2 _ bb e ea eb r1 r2 rfl ⟨_,rfl,q H' s⟩
noncomputable def fBI (p:Int->Int->Bool) (fa fb:En->Option D):En->Option Bool:=fun env=>match fa env,fb env with
  | some (.int i),some (.int j)=>some (p i j)
  | _,_=>none
theorem wM {op:CmpOp}{p:Int->Int->Bool}(ho:OpR X (compareOp op) (rI0 fun i j=>.bl (p i j))) (ha:QE X m1 rs1 a fa) (hb:QE X m2 rs2 b fb) (hm:behindInMarks op b=false):QT X (.Compare a [op] [b] pos) (fBI p fa fb) :=
  sJ ho ha hb hm (fun env x y K H v u f1 f2 Q bb e ea eb r1 r2 _ q=>by
    unfold fBI at e;rw [ea,eb] at e
    split at e
    . rename_i i j h1 h2
      cases h1;cases h2;cases e
      rw [bH r1,bH r2]
      exact⟨i,j,rfl,rfl,q⟩
    . cases e) fun env bb e=>by
    unfold fBI at e
    split at e
    . rename_i i j h1 h2
      exact⟨_,_,h1,h2⟩
    . cases e
theorem yO (ha:QE X m1 rs1 a fa) (hb:QE X m2 rs2 b fb):QT X (.Compare a [.Lt] [b] pos) (fBI (fun i j=>decide (i < j)) fa fb):=wM Z53 ha hb (lZ _)
theorem Z0i (ha:QE X m1 rs1 a fa) (hb:QE X m2 rs2 b fb):QT X (.Compare a [.Gt] [b] pos) (fBI (fun i j=>decide (j < i)) fa fb):=wM Z3k ha hb (lZ _)
theorem Z0j (ha:QE X m1 rs1 a fa) (hb:QE X m2 rs2 b fb):QT X (.Compare a [.GtE] [b] pos) (fBI (fun i j=>decide (j <= i)) fa fb):=wM Z54 ha hb (lZ _)
noncomputable def uM (neg:Bool) (fa:En->Option D):En->Option Bool:=fun env=>match fa env with
  | some .non=>some (!neg)
  | some _=>some neg
  | none=>none
theorem C1 {K:Frag}{H:Hp}{d:D}{v:V}{fp:List Addr}(h:Rep K m H d v fp) (hd:d ≠ .non):v ≠ .non:=by
  cases d with
  | non=>exact absurd rfl hd
  | bl _=>simp only [Rep] at h;rw [h.1];simp
  | int _=>simp only [Rep] at h;rw [h.1];simp
  | str _=>simp only [Rep] at h;rw [h.1];simp
  | tup _=>simp only [Rep] at h;obtain⟨a,vs,e,_⟩:=h;rw [e];simp
  | lst _=>simp only [Rep] at h;obtain⟨a,vs,fp',e,_⟩:=h;rw [e];simp
  | obj _ _ _=>simp only [Rep] at h;obtain⟨a,dx,vs,fp',e,_⟩:=h;rw [e];simp
  | dk _ _=>simp only [Rep] at h;obtain⟨a,vs,fp',e,_⟩:=h;rw [e];simp
  | dt _ _=>simp only [Rep] at h;obtain⟨a,es,ep,vs,fp',e,_⟩:=h;rw [e];simp
  | exc _=>simp only [Rep] at h;obtain⟨a,e,_⟩:=h;rw [e];simp
theorem rN {j pos'} (ha:QE X m1 rs1 a fa):QT X (.Compare a [.IsNot] [.Constant .none j pos'] pos) (uM true fa) :=
  sJ Z2v ha (m2:=false) (rs2:=[]) Z0r (lZ _) (fun env x y K H v u f1 f2 Q bb e ea eb r1 r2 _ q=>by
    cases eb
    refine⟨gP r2,?_⟩
    unfold uM at e;rw [ea] at e
    cases x with
    | non=>cases e;rw [gP r1];exact q
    | _=>cases e;rw [decide_eq_false (C1 r1 (by intro z;cases z))];exact q) fun env bb e=>by
    unfold uM at e
    cases h:fa env with
    | none=>rw [h] at e;cases e
    | some x=>exact⟨x,.non,rfl,rfl⟩
theorem jJ (ha:QT X a ga):QW X (.BoolOp .And [a] pos) ga:=.mk (Z2h ha) fun σ H Q q=>q
theorem wL (ha:QT X a ga):QW X (.BoolOp .Or [a] pos) ga:=.mk (Z3N ha) fun σ H Q q=>q
theorem jZ (ha:QT X a ga) (hb:QW X (.BoolOp .And (b :: rest) pos) gb):QW X (.BoolOp .And (a :: b :: rest) pos) (kG ga gb) :=
  .mk (Z3O ha hb) fun σ H Q ⟨env,F,bb,ok,e,q⟩=>by
    unfold kG at e
    split at e
    . rename_i h1
      exact⟨env,F,true,ok,h1,fun H' s=>by refine E6 ?_;exact⟨env,F,bb,ok.same s,e,fun H2 s2=>q H2 (s.trans s2)⟩⟩
    . rename_i h1
      cases e
      exact⟨env,F,false,ok,h1,fun H' s=>by refine E7 ?_;exact q H' s⟩
    . cases e
theorem yN (ha:QT X a ga) (hb:QW X (.BoolOp .Or (b :: rest) pos) gb):QW X (.BoolOp .Or (a :: b :: rest) pos) (fOr ga gb) :=
  .mk (Z4X ha hb) fun σ H Q ⟨env,F,bb,ok,e,q⟩=>by
    unfold fOr at e
    split at e
    . rename_i h1
      exact⟨env,F,false,ok,h1,fun H' s=>by refine E7 ?_;exact⟨env,F,bb,ok.same s,e,fun H2 s2=>q H2 (s.trans s2)⟩⟩
    . rename_i h1
      cases e
      exact⟨env,F,true,ok,h1,fun H' s=>by refine E6 ?_;exact q H' s⟩
    . cases e
theorem Z0q {op} (h:QE X m rs a f):QE X m rs (.BoolOp op [a] pos) f:=.mk (Z3V h) fun σ H Q q=>q
theorem Z0u (ha:QE X m1 rs1 a fa) (hb:QE X m2 rs2 (.BoolOp .And (b :: rest) pos) fb):QE X m rs (.BoolOp .And (a :: b :: rest) pos) (mP (kG (fB fa) (fB fb))) :=
  .mk (L2.pe_and ha hb) fun σ H Q ⟨env,F,d,ok,e,q⟩=>by
    unfold mP kG fB at e
    cases h1:fa env with
    | none=>rw [h1] at e;cases e
    | some x =>
      rw [h1] at e
      cases x with
      | bl c =>
        cases c with
        | true =>
          simp only at e
          cases h2:fb env with
          | none=>rw [h2] at e;cases e
          | some y =>
            rw [h2] at e
            cases y with
            | bl c2 =>
              cases e
              refine⟨env,F,_,ok,h1,fun v H1 f1 s1 r1 _=>?_⟩
              rw [iG r1]
              refine⟨true,rfl,?_⟩
              refine E6 ?_
              refine⟨env,F,_,ok.same s1,h2,fun u H2 f2 s2 r2 _=>?_⟩
              rw [iG r2]
              exact q _ _ _ (s1.trans s2) sV .nil
            | _=>cases e
        | false =>
          cases e
          refine⟨env,F,_,ok,h1,fun v H1 f1 s1 r1 _=>?_⟩
          rw [iG r1]
          refine⟨false,rfl,?_⟩
          refine E7 ?_
          exact q _ _ _ s1 sV .nil
      | _=>cases e
theorem aJ:QA X m rs [] aL:=fun pos pins s σ H Q I ⟨env,F,ds,ok,e,q⟩=>pa_nil pos pins s σ H Q I (by cases e;exact q [] H [] (Same.refl H) (by simp only [Reps];exact⟨trivial,trivial⟩) .nil)
theorem aD {ga:En->Option (List D)}(ha:QE X m rs e f) (hr:QA X m rs es ga) (hs:starEach (e :: es) X.env=(false,eval e X.env) :: starEach es X.env:=by rfl):QA X m rs (e :: es) (aC f ga) :=
  fun pos pins s σ H Q I ⟨env,F,ds,ok,e,q⟩=>pa_cons ha hr hs pos pins s σ H Q I (by
    unfold aC at e
    split at e
    . rename_i d ds' h1 h2
      cases e
      refine⟨env,F,d,ok,h1,fun v H1 f1 s1 r1 c1=>⟨env,F,ds',ok.same s1,h2,fun vs H2 f2 s2 r2 c2=>q _ H2 (f1 ++ f2) (s1.trans s2) ?_ ?_⟩⟩
      . simp only [Reps]
        exact⟨v,vs,f1,f2,rfl,rfl,r1.same s2,r2⟩
      . refine⟨fun b hb=>(List.mem_append.mp hb).elim (c1.1 b) ((c2.back s1).1 b),fun hm=>⟨List.nodup_append.mpr ⟨(c1.2 hm).1,(c2.2 hm).1,fun x hx y hy z=>?_⟩,fun b hb=>(List.mem_append.mp hb).elim ((c1.2 hm).2 b) (((c2.back s1).2 hm).2 b)⟩⟩
        obtain⟨o,ho⟩:=Rep.dom _ _ _ r1 x hx
        rw [z,(c2.2 hm).2 y hy] at ho
        cases ho
    . cases e)
end
theorem oX {n:Nat}(h:n <= 1000):n <= sizeLine:=Nat.le_of_lt (eJ h)
section
variable {X:Cx}{m m' m1 m2:Bool}{rs rs' rs1 rs2:List Nat}{e a b c:Expr}{es rest:List Expr}{f fa fb fc:En->Option D}{g ga gb:En->Option Bool}{fs:En->Option (List D)}{pos p:Pos}
theorem oM {K:Frag}{H:Hp}{q:Addr}{vs:List V}{ds:List D}{fp:List Addr}(hq:H q=none) (h:Reps K m H ds vs fp):Rep K m (upd H q (.tup vs)) (.tup ds) (.ref q) fp:=by
  have sm:Same H (upd H q (.tup vs)):=fun b o e=>by rw [aX (bI e hq)];exact e
  simp only [Rep]
  exact⟨q,vs,rfl,SqT.of aY,h.same sm⟩
theorem kT {K:Frag}{H:Hp}{q:Addr}{vs:List V}{ds:List D}{fp:List Addr}(hq:H q=none) (h:Reps K m H ds vs fp):Rep K m (upd H q (.lst vs)) (.lst ds) (.ref q) (q :: fp):=by
  have sm:Same H (upd H q (.lst vs)):=fun b o e=>by rw [aX (bI e hq)];exact e
  simp only [Rep]
  exact⟨q,vs,fp,rfl,h.same sm,.inl ⟨rfl,aY⟩⟩
theorem bM {H:Hp}{q:Addr}{o:HO}(hq:H q=none):Same H (upd H q o):=fun b u e=>by rw [aX (bI e hq)];exact e
theorem lN {F:Nat->List Addr}{H H':Hp}{K:Frag}{ds:List D}{vs:List V}{fp:List Addr}{q:Addr}(s:Same H H') (hq:H' q=none) (r:Reps K m H' ds vs fp) (c:Cond F H m rs fp):Cond F H m rs (q :: fp) :=
  ⟨fun b hb => (List.mem_cons.mp hb).elim (fun z => .inl (by rw [z]; exact s.free hq)) (c.1 b),
   fun hm=>⟨List.nodup_cons.mpr ⟨fun z=>(by obtain⟨o,ho⟩:=Reps.dom _ _ _ r q z;rw [hq] at ho;cases ho),(c.2 hm).1⟩,fun b hb=>(List.mem_cons.mp hb).elim (fun z=>by rw [z];exact s.free hq) ((c.2 hm).2 b)⟩⟩
theorem kQ {x1} (h:QA X m rs es fs):QE X m rs (.Tuple es x1 pos) (kF fs) :=
  .mk (L2.pe_tup h) fun σ H Q ⟨env,F,d,ok,e,q⟩=>by
    unfold kF at e
    split at e
    . rename_i ds h1
      split at e
      . rename_i hl
        cases e
        refine⟨env,F,ds,ok,h1,fun vs H' fp s r c=>⟨oX (by rw [r.length];exact hl),fun p hp=>q _ _ fp (s.trans (bM hp)) (oM hp r) c⟩⟩
      . cases e
    . cases e
theorem fE (h:QA X m rs es fs):QE X m rs (.List es pos) (jN fs) :=
  .mk (L2.pe_lst h) fun σ H Q ⟨env,F,d,ok,e,q⟩=>by
    unfold jN at e
    split at e
    . rename_i ds h1
      split at e
      . rename_i hl
        cases e
        refine⟨env,F,ds,ok,h1,fun vs H' fp s r c=>⟨oX (by rw [r.length];exact hl),fun p hp=>q _ _ (p :: fp) (s.trans (bM hp)) (kT hp r) (lN s hp r c)⟩⟩
      . cases e
    . cases e
noncomputable def fIx (fa fb:En->Option D):En->Option D:=fun env=>match fa env,fb env with
  | some (.lst ds),some (.int i)=>atI ds i
  | some (.tup ds),some (.int i)=>atI ds i
  | some (.str z),some (.int i)=>if z.length <= 1000 then (atI z.cps.toList i).map fun c=>.str ⟨#[c]⟩ else none
  | _,_=>none
theorem O9 {K:Frag}{H:Hp}{ds:List D}{vs:List V}{fp:List Addr}{i:Int}{d:D}(r:Reps K m H ds vs fp) (h:atI ds i=some d):∃ v f,atI vs i=some v /\ Rep K m H d v f /\ (∀ b ∈ f,b ∈ fp) /\ (fp.Nodup->f.Nodup):=by
  unfold atI at h ⊢
  rw [r.length]
  cases hj:ixN ds.length i with
  | none=>rw [hj] at h;cases h
  | some j =>
    rw [hj] at h
    exact r.get h
theorem aR (ha:QE X m1 rs a fa) (hb:QE X m2 rs2 b fb) (hs:P0 b:=by exact fun _ _=>rfl):QE X false rs (.Subscript a b pos) (fIx fa fb) :=
  .mk (Z50 Z4d ha hb hs) fun σ H Q ⟨env,F,d,ok,e,q⟩=>by
    unfold fIx at e
    split at e
    . rename_i ds i h1 h2
      refine two ok h1 h2 fun v u H' f1 f2 s r1 r2 c1 c2=>?_
      obtain⟨p,vs,fp',rfl,hsq,hr,hsub⟩:=bW r1
      obtain⟨w,f,e1,e2,e3,_⟩:=O9 hr e
      rw [bH r2]
      exact .inl ⟨p,vs,i,w,rfl,rfl,hsq,e1,q w H' f s (Rep.weak _ _ _ e2) ⟨fun b hb=>c1.1 b (hsub b (e3 b hb)),fun z=>(by cases z)⟩⟩
    . rename_i ds i h1 h2
      refine two ok h1 h2 fun v u H' f1 f2 s r1 r2 c1 c2=>?_
      simp only [Rep] at r1
      obtain⟨p,vs,rfl,hsq,hr⟩:=r1
      obtain⟨w,f,e1,e2,e3,_⟩:=O9 hr e
      rw [bH r2]
      exact .inr (.inl ⟨p,vs,i,w,rfl,rfl,hsq,e1,q w H' f s (Rep.weak _ _ _ e2) ⟨fun b hb=>c1.1 b (e3 b hb),fun z=>(by cases z)⟩⟩)
    . rename_i z i h1 h2
      split at e
      . rename_i hl
        refine two ok h1 h2 fun v u H' f1 f2 s r1 r2 c1 c2=>?_
        cases hc:atI z.cps.toList i with
        | none=>rw [hc] at e;cases e
        | some ch =>
          rw [hc] at e
          cases e
          rw [gE r1,bH r2]
          exact .inr (.inr ⟨z,i,ch,rfl,rfl,oX hl,hc,q _ H' [] s Z0T .nil⟩)
      . cases e
    . cases e
noncomputable def QO (X:Cx) (e:Option Expr) (f:En->Option (Option Int)):Prop:=PO X e (fun σ H Q=>∃ env F o,EnvOk X.K H σ env F /\ f env=some o /\ ∀ H',Same H H'->Q o H')
noncomputable def nF:En->Option (Option Int):=fun _=>some none
noncomputable def fP (f:En->Option D):En->Option (Option Int):=fun env=>match f env with
  | some (.int i)=>some (some i)
  | _=>none
theorem kL:QO X none nF:=fun pins s σ H Q I ⟨env,F,o,ok,e,q⟩=>Z2p pins s σ H Q I (by cases e;exact q H (Same.refl H))
theorem kK (h:QE X m rs e f):QO X (some e) (fP f):=fun pins s σ H Q I ⟨env,F,o,ok,e,q⟩=>Z2o h pins s σ H Q I (by
  unfold fP at e
  split at e
  . rename_i i h1
    cases e
    refine⟨env,F,_,ok,h1,fun v H' fp s r _=>?_⟩
    rw [bH r]
    exact⟨i,rfl,q H' s⟩
  . cases e)
noncomputable def cutD (xs:List D) (lo hi:Option Int):List D:=(xs.drop (HT.sIx xs.length 0 lo)).take (HT.sIx xs.length xs.length hi - HT.sIx xs.length 0 lo)
theorem Reps.drop {K:Frag}{H:Hp}:∀ (n:Nat) {ds:List D}{vs:List V}{fp:List Addr},Reps K m H ds vs fp->∃ f,Reps K m H (ds.drop n) (vs.drop n) f /\ (∀ b ∈ f,b ∈ fp)
  | 0,ds,vs,fp,h=>⟨fp,h,fun _ h=>h⟩
  | n + 1,[],vs,fp,h=>by simp only [Reps] at h;obtain⟨rfl,rfl⟩:=h;exact⟨[],by simp only [List.drop_nil,Reps];exact⟨trivial,trivial⟩,fun _ h=>h⟩
  | n + 1,d :: ds,vs,fp,h=>by
    simp only [Reps] at h
    obtain⟨v,r,f1,f2,rfl,rfl,h1,h2⟩:=h
    obtain⟨f,e1,e2⟩:=Reps.drop n h2
    exact⟨f,e1,fun b hb=>List.mem_append_right _ (e2 b hb)⟩
theorem Reps.take {K:Frag}{H:Hp}:∀ (n:Nat) {ds:List D}{vs:List V}{fp:List Addr},Reps K m H ds vs fp->∃ f,Reps K m H (ds.take n) (vs.take n) f /\ (∀ b ∈ f,b ∈ fp)
  | 0,ds,vs,fp,h=>⟨[],by simp only [List.take_zero,Reps];exact⟨trivial,trivial⟩,fun b hb=>(by cases hb)⟩
  | n + 1,[],vs,fp,h=>by simp only [Reps] at h;obtain⟨rfl,rfl⟩:=h;exact⟨[],by simp only [List.take_nil,Reps];exact⟨trivial,trivial⟩,fun _ h=>h⟩
  | n + 1,d :: ds,vs,fp,h=>by
    simp only [Reps] at h
    obtain⟨v,r,f1,f2,rfl,rfl,h1,h2⟩:=h
    obtain⟨f,e1,e2⟩:=Reps.take n h2
    refine⟨f1 ++ f,by simp only [List.take_succ_cons,Reps];exact⟨v,_,f1,f,rfl,rfl,h1,e1⟩,fun b hb=>?_⟩
    rcases List.mem_append.mp hb with z | z
    . exact List.mem_append_left _ z
    . exact List.mem_append_right _ (e2 b z)
theorem Reps.cut {K:Frag}{H:Hp}{ds:List D}{vs:List V}{fp:List Addr}(h:Reps K m H ds vs fp) (lo hi:Option Int):∃ f,Reps K m H (cutD ds lo hi) (zU vs lo hi) f /\ (∀ b ∈ f,b ∈ fp):=by
  unfold cutD zU
  rw [h.length]
  obtain⟨f,e1,e2⟩:=Reps.drop (HT.sIx ds.length 0 lo) h
  obtain⟨f',e3,e4⟩:=Reps.take (HT.sIx ds.length ds.length hi - HT.sIx ds.length 0 lo) e1
  exact⟨f',e3,fun b hb=>e2 b (e4 b hb)⟩
theorem lL:∀ {ds:List D},(∀ d ∈ ds,flat d=true)->flats ds=true
  | [],_=>rfl
  | d :: ds,h=>by simp only [flats,Bool.and_eq_true];exact⟨h d List.mem_cons_self,lL fun x hx=>h x (List.mem_cons_of_mem _ hx)⟩
noncomputable def fSl (fa:En->Option D) (fl fh:En->Option (Option Int)):En->Option D:=fun env=>match fa env,fl env,fh env with
  | some (.lst ds),some lo,some hi=>if flats ds=true then some (.lst (cutD ds lo hi)) else none
  | some (.tup ds),some lo,some hi=>if flats ds=true /\ ¬ (HT.sIx ds.length 0 lo=0 /\ HT.sIx ds.length ds.length hi=ds.length) then some (.tup (cutD ds lo hi)) else none
  | _,_,_=>none
theorem oZ {lo hi:Option Expr}{fl fh:En->Option (Option Int)}{p2:Pos}(ha:QE X m1 rs1 a fa) (hl:QO X lo fl) (hu:QO X hi fh):QE X m rs (.Subscript a (.Slice lo hi none p2) pos) (fSl fa fl fh) :=
  .mk (L2.pe_slice (SlR.or L0 B7) ha hl hu) fun σ H Q ⟨env,F,d,ok,e,q⟩=>by
    unfold fSl at e
    split at e
    . rename_i ds l h h1 h2 h3
      split at e
      . rename_i hf
        cases e
        refine⟨env,F,_,ok,h1,fun v H1 f1 s1 r1 c1=>⟨env,F,l,ok.same s1,h2,fun H2 s2=>⟨env,F,h,ok.same (s1.trans s2),h3,fun H3 s3=>.inl ?_⟩⟩⟩
        obtain⟨p,vs,fp',rfl,hsq,hr,hsub⟩:=bW (r1.same (s2.trans s3))
        refine⟨p,vs,rfl,hsq,fun p' hp=>?_⟩
        obtain⟨g1,g2⟩:=Reps.flat _ _ _ hf hr
        obtain⟨f',e3,e4⟩:=Reps.cut (g2 m) l h
        obtain rfl:f'=[]:=List.eq_nil_iff_forall_not_mem.mpr fun b hb=>(by cases e4 b hb)
        exact q _ _ [p'] (((s1.trans s2).trans s3).trans (bM hp)) (kT hp e3) (lN ((s1.trans s2).trans s3) hp e3 .nil)
      . cases e
    . rename_i ds l h h1 h2 h3
      split at e
      . rename_i hf
        cases e
        refine⟨env,F,_,ok,h1,fun v H1 f1 s1 r1 c1=>⟨env,F,l,ok.same s1,h2,fun H2 s2=>⟨env,F,h,ok.same (s1.trans s2),h3,fun H3 s3=>.inr ?_⟩⟩⟩
        have r1':=r1.same (s2.trans s3)
        simp only [Rep] at r1'
        obtain⟨p,vs,rfl,hsq,hr⟩:=r1'
        refine⟨p,vs,rfl,hsq,by rw [hr.length];exact hf.2,fun p' hp=>?_⟩
        obtain⟨g1,g2⟩:=Reps.flat _ _ _ hf.1 hr
        obtain⟨f',e3,e4⟩:=Reps.cut (g2 m) l h
        obtain rfl:f'=[]:=List.eq_nil_iff_forall_not_mem.mpr fun b hb=>(by cases e4 b hb)
        exact q _ _ [] (((s1.trans s2).trans s3).trans (bM hp)) (oM hp e3) .nil
      . cases e
    . cases e
theorem lE {x:Str}{id:String}{r:List V->Hp->VK->Prop}{F':List D->Option D}(hc:CallR X (.builtin id) r) (hg:Gl X x) (hm:X.mg x=none) (hv:bootBuiltins x=some (.builtin id)) (ha:QA X m1 rs1 (e :: es) fs)
    (hr:∀ ds d vs H fp Q,F' ds=some d->Reps X.K m1 H ds vs fp->(∀ v H' f',Same H H'->Rep X.K m H' d v f'->(∀ b ∈ f',H b=none)->f'.Nodup->Q v H')->r vs H Q)
    (hn:x ≠ "__name__":=by decide) (hdb:(x == ("__debug__" : Str))=false:=by decide) (he:starEach (e :: es) X.env=(false,eval e X.env) :: starEach es X.env:=by rfl) (hpl:(backTo pos (starEach es X.env)).any (·.1)=false:=by rfl) :
    QE X m rs (.Call (.Name x p) (e :: es) [] pos) (fun env=>(fs env).bind F') :=
  .mk (L2.pe_callB hc hg hm hv ha hn hdb he hpl) fun σ H Q ⟨env,F,d,ok,e,q⟩=>by
    cases h1:fs env with
    | none=>simp only [h1] at e;cases e
    | some ds =>
      simp only [h1] at e
      exact⟨env,F,ds,ok,h1,fun vs H' fp s r c=>hr ds d vs H' fp Q e r fun v H2 f' s2 r2 h2 nd=>q v H2 f' (s.trans s2) r2 ⟨fun b hb=>.inl (s.free (h2 b hb)),fun _=>⟨nd,fun b hb=>s.free (h2 b hb)⟩⟩⟩
theorem pT {x:Str}{T:String}{r:List V->Hp->VK->Prop}{F':List D->Option D}(hc:CallR X (.type T) r) (hg:Gl X x) (hm:X.mg x=none) (hv:bootBuiltins x=some (.type T)) (ha:QA X m1 rs1 (e :: es) fs)
    (hr:∀ ds d vs H fp Q,F' ds=some d->Reps X.K m1 H ds vs fp->(∀ v H' f',Same H H'->Rep X.K m H' d v f'->(∀ b ∈ f',H b=none)->f'.Nodup->Q v H')->r vs H Q)
    (hn:x ≠ "__name__":=by decide) (hdb:(x == ("__debug__" : Str))=false:=by decide) (he:starEach (e :: es) X.env=(false,eval e X.env) :: starEach es X.env:=by rfl) (hpl:(backTo pos (starEach es X.env)).any (·.1)=false:=by rfl) :
    QE X m rs (.Call (.Name x p) (e :: es) [] pos) (fun env=>(fs env).bind F') :=
  .mk (L2.pe_callTy hc hg hm hv ha hn hdb he hpl) fun σ H Q ⟨env,F,d,ok,e,q⟩=>by
    cases h1:fs env with
    | none=>simp only [h1] at e;cases e
    | some ds =>
      simp only [h1] at e
      exact⟨env,F,ds,ok,h1,fun vs H' fp s r c=>hr ds d vs H' fp Q e r fun v H2 f' s2 r2 h2 nd=>q v H2 f' (s.trans s2) r2 ⟨fun b hb=>.inl (s.free (h2 b hb)),fun _=>⟨nd,fun b hb=>s.free (h2 b hb)⟩⟩⟩
theorem jX {K:Frag}{H:Hp}{d:D}{vs:List V}{fp:List Addr}(h:Reps K m H [d] vs fp):∃ v,vs=[v] /\ Rep K m H d v fp:=by
  simp only [Reps] at h
  obtain⟨v,r,f1,f2,rfl,rfl,h1,rfl,rfl⟩:=h
  exact⟨v,rfl,by simpa using h1⟩
theorem L3 {K:Frag}{H:Hp}{d d':D}{vs:List V}{fp:List Addr}(h:Reps K m H [d,d'] vs fp):∃ v v' f f',vs=[v,v'] /\ Rep K m H d v f /\ Rep K m H d' v' f' /\ fp=f ++ f':=by
  simp only [Reps] at h
  obtain⟨v,r,f1,f2,rfl,rfl,h1,v',r',f3,f4,rfl,rfl,h2,rfl,rfl⟩:=h
  exact⟨v,v',f1,f3,rfl,h1,h2,by simp⟩
noncomputable def bT:List D->Option D
  | [.lst ds]=>some (.int ds.length)
  | [.tup ds]=>some (.int ds.length)
  | [.str z]=>if z.length <= 1000 then some (.int z.length) else none
  | _=>none
theorem eF {p:Pos}(hg:Gl X "len") (hm:X.mg "len" = none) (ha:QE X m1 rs1 a fa) (he:starEach [a] X.env=(false,eval a X.env) :: starEach [] X.env:=by rfl) (hpl:(backTo pos (starEach [] X.env)).any (·.1)=false:=by rfl) :
    QE X m rs (.Call (.Name "len" p) [a] [] pos) (fun env=>(aC fa aL env).bind bT) :=
  lE (call_len_seq.or xO) hg hm PySem.boot_len (aD ha aJ he) (fun ds d vs H fp Q e r q=>by
    unfold bT at e
    split at e
    . cases e
      obtain⟨v,rfl,r1⟩:=jX r
      obtain⟨p,ws,fp',rfl,hsq,hr,hsub⟩:=bW r1
      exact .inl ⟨p,ws,rfl,.inl hsq,by rw [hr.length];exact q _ _ [] (Same.refl H) fS (fun b hb=>(by cases hb)) List.nodup_nil⟩
    . cases e
      obtain⟨v,rfl,r1⟩:=jX r
      simp only [Rep] at r1
      obtain⟨p,ws,rfl,hsq,hr⟩:=r1
      exact .inl ⟨p,ws,rfl,.inr hsq,by rw [hr.length];exact q _ _ [] (Same.refl H) fS (fun b hb=>(by cases hb)) List.nodup_nil⟩
    . split at e
      . rename_i hl
        cases e
        obtain⟨v,rfl,r1⟩:=jX r
        rw [gE r1]
        exact .inr ⟨_,rfl,oX hl,q _ _ [] (Same.refl H) fS (fun b hb=>(by cases hb)) List.nodup_nil⟩
      . cases e
    . cases e) (he:=he) (hpl:=hpl)
noncomputable def iD:List D->Option D
  | [.lst ds]=>if flats ds=true then some (.lst ds) else none
  | [.tup ds]=>if flats ds=true then some (.lst ds) else none
  | _=>none
theorem vU:bootBuiltins "list" = some (.type "list"):=by decide +kernel
theorem tR:bootBuiltins "tuple" = some (.type "tuple"):=by decide +kernel
theorem Z1F:bootBuiltins "int" = some (.type "int"):=by decide +kernel
theorem Z1D:bootBuiltins "min" = some (.builtin "min"):=by decide +kernel
theorem Z1E:bootBuiltins "max" = some (.builtin "max"):=by decide +kernel
theorem nP {p:Pos}(hg:Gl X "list") (hm:X.mg "list" = none) (ha:QE X m1 rs1 a fa) (he:starEach [a] X.env=(false,eval a X.env) :: starEach [] X.env:=by rfl) (hpl:(backTo pos (starEach [] X.env)).any (·.1)=false:=by rfl) :
    QE X m rs (.Call (.Name "list" p) [a] [] pos) (fun env=>(aC fa aL env).bind iD) :=
  pT xN hg hm vU (aD ha aJ he) (fun ds d vs H fp Q e r q=>by
    have fin:∀ {xs:List D}{ws:List V}{f:List Addr}{l:Addr},flats xs=true->Reps X.K m1 H xs ws f->H l=none->Q (.ref l) (upd H l (.lst ws))->True:=fun _ _ _ _=>trivial
    unfold iD at e
    split at e
    . split at e
      . rename_i hf
        cases e
        obtain⟨v,rfl,r1⟩:=jX r
        obtain⟨p,ws,fp',rfl,hsq,hr,hsub⟩:=bW r1
        refine⟨p,ws,rfl,.inl hsq,fun l hl=>?_⟩
        obtain⟨g1,g2⟩:=Reps.flat _ _ _ hf hr
        exact q _ _ [l] (bM hl) (kT hl (g2 m)) (fun b hb=>by simp at hb;rw [hb];exact hl) (by simp)
      . cases e
    . split at e
      . rename_i hf
        cases e
        obtain⟨v,rfl,r1⟩:=jX r
        simp only [Rep] at r1
        obtain⟨p,ws,rfl,hsq,hr⟩:=r1
        refine⟨p,ws,rfl,.inr hsq,fun l hl=>?_⟩
        obtain⟨g1,g2⟩:=Reps.flat _ _ _ hf hr
        exact q _ _ [l] (bM hl) (kT hl (g2 m)) (fun b hb=>by simp at hb;rw [hb];exact hl) (by simp)
      . cases e
    . cases e) (he:=he) (hpl:=hpl)
noncomputable def xS:List D->Option D
  | [.lst ds]=>if flats ds=true then some (.tup ds) else none
  | [.tup ds]=>if flats ds=true then some (.tup ds) else none
  | _=>none
theorem Z0m {p:Pos}(hg:Gl X "tuple") (hm:X.mg "tuple" = none) (ha:QE X m1 rs1 a fa) (he:starEach [a] X.env=(false,eval a X.env) :: starEach [] X.env:=by rfl) (hpl:(backTo pos (starEach [] X.env)).any (·.1)=false:=by rfl) :
    QE X m rs (.Call (.Name "tuple" p) [a] [] pos) (fun env=>(aC fa aL env).bind xS) :=
  pT oB hg hm tR (aD ha aJ he) (fun ds d vs H fp Q e r q=>by
    unfold xS at e
    split at e
    . split at e
      . rename_i hf
        cases e
        obtain⟨v,rfl,r1⟩:=jX r
        obtain⟨p,ws,fp',rfl,hsq,hr,hsub⟩:=bW r1
        refine⟨p,ws,rfl,.inl ⟨hsq,fun l hl=>?_⟩⟩
        obtain⟨g1,g2⟩:=Reps.flat _ _ _ hf hr
        exact q _ _ [] (bM hl) (oM hl (g2 m)) (fun b hb=>(by cases hb)) List.nodup_nil
      . cases e
    . split at e
      . rename_i hf
        cases e
        obtain⟨v,rfl,r1⟩:=jX r
        have r2:=r1
        simp only [Rep] at r1
        obtain⟨p,ws,rfl,hsq,hr⟩:=r1
        obtain⟨g1,g2⟩:=Rep.flat _ _ _ (by simpa only [PD.flat] using hf) r2
        exact⟨p,ws,rfl,.inr ⟨hsq,q _ _ [] (Same.refl H) (g2 m) (fun b hb=>(by cases hb)) List.nodup_nil⟩⟩
      . cases e
    . cases e) (he:=he) (hpl:=hpl)
noncomputable def Z3a:List D->Option D
  | [.int i,.int j]=>some (.int (if j < i then j else i))
  | _=>none
noncomputable def Y8:List D->Option D
  | [.int i,.int j]=>some (.int (if j > i then j else i))
  | _=>none
theorem Z3L {p:Pos}(hcm:X.calm=true) (hg:Gl X "min") (hm:X.mg "min" = none) (ha:QA X m1 rs1 [a,b] fs) (he:starEach [a,b] X.env=(false,eval a X.env) :: starEach [b] X.env:=by rfl) (hpl:(backTo pos (starEach [b] X.env)).any (·.1)=false:=by rfl) :
    QE X m rs (.Call (.Name "min" p) [a,b] [] pos) (fun env=>(fs env).bind Z3a) :=
  lE (X6 hcm) hg hm Z1D ha (fun ds d vs H fp Q e r q=>by
    unfold Z3a at e
    split at e
    . rename_i i j
      cases e
      obtain⟨v,v',f,f',rfl,r1,r2,rfl⟩:=L3 r
      rw [bH r1,bH r2]
      exact⟨i,j,rfl,q _ _ [] (Same.refl H) fS (fun b hb=>(by cases hb)) List.nodup_nil⟩
    . cases e) (he:=he) (hpl:=hpl)
theorem Z0s {p:Pos}(hcm:X.calm=true) (hg:Gl X "max") (hm:X.mg "max" = none) (ha:QA X m1 rs1 [a,b] fs) (he:starEach [a,b] X.env=(false,eval a X.env) :: starEach [b] X.env:=by rfl) (hpl:(backTo pos (starEach [b] X.env)).any (·.1)=false:=by rfl) :
    QE X m rs (.Call (.Name "max" p) [a,b] [] pos) (fun env=>(fs env).bind Y8) :=
  lE (X7 hcm) hg hm Z1E ha (fun ds d vs H fp Q e r q=>by
    unfold Y8 at e
    split at e
    . rename_i i j
      cases e
      obtain⟨v,v',f,f',rfl,r1,r2,rfl⟩:=L3 r
      rw [bH r1,bH r2]
      exact⟨i,j,rfl,q _ _ [] (Same.refl H) fS (fun b hb=>(by cases hb)) List.nodup_nil⟩
    . cases e) (he:=he) (hpl:=hpl)
noncomputable def rL:List D->Option D
  | [.int i]=>some (.int i)
  | [.bl k]=>some (.int (if k then 1 else 0))
  | _=>none
theorem M5 {p:Pos}(hg:Gl X "int") (hm:X.mg "int" = none) (ha:QE X m1 rs1 a fa) (he:starEach [a] X.env=(false,eval a X.env) :: starEach [] X.env:=by rfl) (hpl:(backTo pos (starEach [] X.env)).any (·.1)=false:=by rfl) :
    QE X m rs (.Call (.Name "int" p) [a] [] pos) (fun env=>(aC fa aL env).bind rL) :=
  pT X9 hg hm Z1F (aD ha aJ he) (fun ds d vs H fp Q e r q=>by
    unfold rL at e
    split at e
    . cases e
      obtain⟨v,rfl,r1⟩:=jX r
      rw [bH r1]
      exact .inl ⟨_,rfl,q _ _ [] (Same.refl H) fS (fun b hb=>(by cases hb)) List.nodup_nil⟩
    . cases e
      obtain⟨v,rfl,r1⟩:=jX r
      rw [iG r1]
      exact .inr ⟨_,rfl,q _ _ [] (Same.refl H) fS (fun b hb=>(by cases hb)) List.nodup_nil⟩
    . cases e) (he:=he) (hpl:=hpl)
end
section
variable {X:Cx}{m m' m1 m2:Bool}{rs rs' rs1 rs2:List Nat}{e a b c:Expr}{es rest:List Expr}{f fa fb fc:En->Option D}{g ga gb:En->Option Bool}{fs:En->Option (List D)}{pos p:Pos}
noncomputable def spD (K:Frag) (n:Nat) (f:List D->Option D):Sp:=fun vs H Q _=>∃ ds d fp,ds.length=n /\ Reps K false H ds vs fp /\ f ds=some d /\ ∀ v H' fp',Same H H'->Rep K true H' d v fp'->(∀ b ∈ fp',H b=none)->fp'.Nodup->Q v H'
theorem Z1X {K:Frag}{n:Nat}{f:List D->Option D}{vs:List V}{H:Hp}{Q:VK}{E:XK}(h:spD K n f vs H Q E):vs.length=n:=by
  obtain⟨ds,d,fp,h1,h2,_⟩:=h
  rw [h2.length,h1]
theorem Z2f {k:Nat}{fA:Addr}{fd:FuncData}{ps:List Str}{n:Nat}{F':List D->Option D}{dvs:List V}{dds:List D}{ds:List Value}{x:Str}(G:FnOk X.prog X.w X.K X.mg X.base CX0 k fA fd ps (spD X.K n F')) (hr:Room k X.A) (hg:Gl X x) (hm:X.mg x=some (.ref fA)) (hk:keepIn X.K (.ref fA)=true)
    (hb:Binds X.K fd ps ds) (hd:Vals dvs ds) (hdd:∀ H,Reps X.K false H dds dvs []) (ha:QA X m1 rs1 (e :: es) fs) (hn:∀ env xs,fs env=some xs->xs.length + dds.length=n)
    (hdb:(x == ("__debug__" : Str))=false:=by decide) (he:starEach (e :: es) X.env=(false,eval e X.env) :: starEach es X.env:=by rfl) (hpl:(backTo pos (starEach es X.env)).any (·.1)=false:=by rfl) :
    QE X true [] (.Call (.Name x p) (e :: es) [] pos) (fun env=>(fs env).bind fun xs=>F' (xs ++ dds)) :=
  .mk (L2.pe_call G hr hg hm hk hb hd Z3j ha hdb he hpl) fun σ H Q ⟨env,F,d,ok,e,q⟩=>by
    cases h1:fs env with
    | none=>simp only [h1] at e;cases e
    | some xs =>
      simp only [h1] at e
      refine⟨env,F,xs,ok,h1,fun vs H' fp s r c=>⟨xs ++ dds,d,fp ++ [],by rw [List.length_append];exact hn env xs h1,(Reps.weak _ _ _ r).append (hdd H'),e,fun v H2 fp' s2 r2 h2 nd=>q v H2 fp' (s.trans s2) r2 ⟨fun b hb=>.inl (s.free (h2 b hb)),fun _=>⟨nd,fun b hb=>s.free (h2 b hb)⟩⟩⟩⟩
theorem rS {K:Frag}{H:Hp}{nm:Str}:∀ {ns:List Str}{ds:List D}{vs:List V}{fp:List Addr}{d:D},Reps K m H ds vs fp->(ns.zip ds).lookup nm=some d->∃ v f,(ns.zip vs).lookup nm=some v /\ Rep K m H d v f /\ ∀ b ∈ f,b ∈ fp
  | [],ds,vs,fp,d,r,e=>by cases e
  | n :: ns,[],vs,fp,d,r,e=>by cases e
  | n :: ns,d' :: ds,vs,fp,d,r,e=>by
    simp only [Reps] at r
    obtain⟨v,vr,f1,f2,rfl,rfl,h1,h2⟩:=r
    simp only [List.zip_cons_cons,List.lookup_cons] at e ⊢
    cases hq:nm == n with
    | true =>
      rw [hq] at e
      cases e
      exact⟨v,f1,rfl,h1,fun b hb=>List.mem_append_left _ hb⟩
    | false =>
      rw [hq] at e
      obtain⟨w,f,a1,a2,a3⟩:=rS h2 e
      exact⟨w,f,a1,a2,fun b hb=>List.mem_append_right _ (a3 b hb)⟩
noncomputable def jO (C:Addr) (nm:Str) (fa:En->Option D):En->Option D:=fun env=>match fa env with
  | some (.obj C' ns ds)=>if C'=C then (ns.zip ds).lookup nm else none
  | _=>none
theorem gK {C:Addr}{nm:Str}(hc:Cls X.K C) (hn:NoAttr X.K C nm) (ha:QE X m1 rs a fa) (hb:attributeBase a nm X.env (eval a X.env)=eval a X.env:=by rfl):QE X false rs (.Attribute a nm pos) (jO C nm fa) :=
  .mk (Z3X ha hb) fun σ H Q ⟨env,F,d,ok,e,q⟩=>by
    unfold jO at e
    split at e
    . rename_i C' ns ds h1
      split at e
      . rename_i hC
        subst hC
        refine⟨env,F,_,ok,h1,fun v H' fp s r c=>?_⟩
        simp only [Rep] at r
        obtain⟨a',dx,vs,fp',rfl,rfl,h2,h3,h4⟩:=r
        obtain⟨w,f,a1,a2,a3⟩:=rS h4 e
        exact⟨a',C',dx,_,w,rfl,h2,hc,hn,a1,q w H' f s (Rep.weak _ _ _ a2) ⟨fun b hb=>c.1 b (List.mem_cons_of_mem _ (a3 b hb)),fun z=>(by cases z)⟩⟩
      . cases e
    . cases e
noncomputable def rE (K:Frag) (J:It) (H0:Hp) (ds:List D) (fp:List Addr):Prop:=∀ H,Kp fp H0 H->∀ i,
  (∀ d,ds[i]? = some d->J.go i H /\ ∀ x H',J.yld i H x H'->Same H H' /\ ∃ f,Rep K false H' d x f /\ ∀ b ∈ f,b ∈ fp) /\ (ds.length <= i->J.stop i H)
noncomputable def tDI (K:Frag) (rs:List Nat) (f:En->Option (List D)):TI:=fun σ H R=>∃ env F ds,EnvOk K H σ env F /\ f env=some ds /\ ∀ J H' fp,Same H H'->rE K J H' ds fp->(∀ b ∈ fp,∃ o,H' b=some o)->Cond F H false rs fp->R J H'
noncomputable def QI (X:Cx) (tg:Expr) (rs:List Nat) (iter:Expr) (f:En->Option (List D)):Prop:=PI X tg iter (tDI X.K rs f)
theorem QI.mk {tg iter:Expr}{wi:TI}{f:En->Option (List D)}(h:PI X tg iter wi) (hi:∀ σ H R,tDI X.K rs f σ H R->wi σ H R):QI X tg rs iter f:=fun pins s σ H R I q=>h pins s σ H R I (hi σ H R q)
theorem PI.or {tg iter:Expr}{w1 w2:TI}(h1:PI X tg iter w1) (h2:PI X tg iter w2):PI X tg iter (fun σ H R=>w1 σ H R \/ w2 σ H R):=fun pins s σ H R I q=>q.elim (h1 pins s σ H R I) (h2 pins s σ H R I)
theorem I0 {K:Frag}{H0:Hp}{ds:List D}{a:Addr}{fp:List Addr}(r:Rep K false H0 (.lst ds) (.ref a) fp):rE K (Itl K a) H0 ds fp:=fun H k i=>by
  have r':=Rep.keep _ _ _ k r
  obtain⟨p,vs,fp',e,hsq,hr,hsub⟩:=bW r'
  cases e
  refine⟨fun d hd=>?_,fun hl=>⟨vs,hsq,by rw [hr.length];exact hl⟩⟩
  obtain⟨v,f,h1,h2,h3,_⟩:=hr.get hd
  refine⟨⟨vs,v,hsq,h1⟩,fun x H' y=>?_⟩
  obtain⟨rfl,y⟩:=y
  have:=y vs hsq
  rw [h1] at this
  cases this
  exact⟨Same.refl _,f,h2,fun b hb=>hsub b (h3 b hb)⟩
theorem W4 {K:Frag}{H0:Hp}{ds:List D}{a:Addr}{fp:List Addr}(r:Rep K false H0 (.tup ds) (.ref a) fp):rE K (Itt K a) H0 ds fp:=fun H k i=>by
  have r':=Rep.keep _ _ _ k r
  simp only [Rep] at r'
  obtain⟨p,vs,e,hsq,hr⟩:=r'
  cases e
  refine⟨fun d hd=>?_,fun hl=>⟨vs,hsq,by rw [hr.length];exact hl⟩⟩
  obtain⟨v,f,h1,h2,h3,_⟩:=hr.get hd
  refine⟨⟨vs,v,hsq,h1⟩,fun x H' y=>?_⟩
  obtain⟨rfl,y⟩:=y
  have:=y vs hsq
  rw [h1] at this
  cases this
  exact⟨Same.refl _,f,h2,h3⟩
theorem J0 {K:Frag}{H0:Hp}{ds:List D}{a:Addr}{fp:List Addr}(r:Rep K false H0 (.lst ds) (.ref a) fp):rE K (Ite K a) H0 (ds.mapIdx fun i d=>.tup [.int i,d]) fp:=fun H k i=>by
  have r':=Rep.keep _ _ _ k r
  obtain⟨p,vs,fp',e,hsq,hr,hsub⟩:=bW r'
  cases e
  refine⟨fun d hd=>?_,fun hl=>⟨vs,hsq,by rw [hr.length];simpa using hl⟩⟩
  rw [List.getElem?_mapIdx] at hd
  cases hdd:ds[i]? with
  | none=>rw [hdd] at hd;cases hd
  | some d' =>
    rw [hdd] at hd
    cases hd
    obtain⟨v,f,h1,h2,h3,_⟩:=hr.get hdd
    refine⟨⟨vs,v,hsq,h1⟩,fun x H' y=>?_⟩
    obtain⟨q,w,hq,rfl,y,rfl⟩:=y
    have:=y vs hsq
    rw [h1] at this
    cases this
    refine⟨bM hq,f,oM hq ?_,fun b hb=>hsub b (h3 b hb)⟩
    simp only [Reps]
    exact⟨.int i,[v],[],f,rfl,rfl,fS,v,[],f,[],rfl,by simp,h2,rfl,rfl⟩
theorem qX {K:Frag}{H0:Hp}(lo:Int) (n:Nat):rE K (Itr lo n) H0 ((List.range n).map fun (k:Nat)=>.int (lo + (k:Int))) []:=fun H k i=>by
  refine⟨fun d hd=>?_,fun hl=>(show n <= i by simpa using hl)⟩
  rw [List.getElem?_map] at hd
  cases hdd:(List.range n)[i]? with
  | none=>rw [hdd] at hd;cases hd
  | some j =>
    rw [hdd] at hd
    cases hd
    obtain⟨hlt,e⟩:=List.getElem?_eq_some_iff.mp hdd
    rw [List.getElem_range] at e
    subst e
    refine⟨(show i < n by simpa using hlt),fun x H' y=>?_⟩
    obtain⟨rfl,rfl⟩:=y
    exact⟨Same.refl _,[],fS,fun b hb=>hb⟩
noncomputable def dW (fa:En->Option D):En->Option (List D):=fun env=>match fa env with
  | some (.lst ds)=>some ds
  | some (.tup ds)=>some ds
  | _=>none
theorem dA {tg:Expr}(ha:QE X m1 rs a fa):QI X tg rs a (dW fa) :=
  .mk (PI.or (Z2r ha) (Z3S ha)) fun σ H R ⟨env,F,ds,ok,e,q⟩=>by
    unfold dW at e
    split at e
    . rename_i ds' h1
      cases e
      refine .inl ⟨env,F,_,ok,h1,fun v H' fp s r c=>?_⟩
      have r0:=Rep.weak _ _ _ r
      obtain⟨p,vs,fp',rfl,hsq,hr,hsub⟩:=bW r
      exact⟨p,rfl,⟨vs,hsq⟩,q _ H' fp s (I0 r0) (Rep.dom _ _ _ r) ⟨c.1,fun z=>(by cases z)⟩⟩
    . rename_i ds' h1
      cases e
      refine .inr ⟨env,F,_,ok,h1,fun v H' fp s r c=>?_⟩
      have r0:=Rep.weak _ _ _ r
      have r1:=r
      simp only [Rep] at r1
      obtain⟨p,vs,rfl,hsq,hr⟩:=r1
      exact⟨p,rfl,⟨vs,hsq⟩,q _ H' fp s (W4 r0) (Rep.dom _ _ _ r) ⟨c.1,fun z=>(by cases z)⟩⟩
    . cases e
noncomputable def fJ:List D->Option (List D)
  | [.int j]=>if -(2 ^ 62) <= j /\ j < 2 ^ 62 then some ((List.range j.toNat).map fun (k:Nat)=>.int (0 + (k:Int))) else none
  | _=>none
theorem dQ {tg:Expr}{p:Pos}(hg:Gl X "range") (hm:X.mg "range" = none) (ha:QA X m1 rs1 [a] fs) (hs:starEach [a] X.env=[(false,eval a X.env)]:=by rfl):QI X tg rs (.Call (.Name "range" p) [a] [] pos) (fun env=>(fs env).bind fJ) :=
  .mk (T6 hg hm ha hs) fun σ H R ⟨env,F,ds,ok,e,q⟩=>by
    cases h1:fs env with
    | none=>simp only [h1] at e;cases e
    | some xs =>
      simp only [h1,Option.bind_some] at e
      unfold fJ at e
      split at e
      . rename_i j
        split at e
        . rename_i hj
          cases e
          refine⟨env,F,_,ok,h1,fun vs H' fp s r c=>?_⟩
          obtain⟨v,rfl,r1⟩:=jX r
          rw [bH r1]
          exact⟨j,rfl,hj.1,hj.2,q _ H' [] s (qX 0 _) (fun b hb=>(by cases hb)) .nil⟩
        . cases e
      . cases e
noncomputable def A5:List D->Option (List D)
  | [.int i,.int j]=>if -(2 ^ 62) <= i /\ i < 2 ^ 62 /\ -(2 ^ 62) <= j /\ j < 2 ^ 62 then some ((List.range (j - i).toNat).map fun (k:Nat)=>.int (i + (k:Int))) else none
  | _=>none
theorem T1 {tg:Expr}{p:Pos}(hg:Gl X "range") (hm:X.mg "range" = none) (ha:QA X m1 rs1 [a,b] fs) (hs:starEach [a,b] X.env=[(false,eval a X.env),(false,eval b X.env)]:=by rfl) (hs2:starEach [b] X.env=[(false,eval b X.env)]:=by rfl):QI X tg rs (.Call (.Name "range" p) [a,b] [] pos) (fun env=>(fs env).bind A5) :=
  .mk (T5 hg hm ha hs hs2) fun σ H R ⟨env,F,ds,ok,e,q⟩=>by
    cases h1:fs env with
    | none=>simp only [h1] at e;cases e
    | some xs =>
      simp only [h1,Option.bind_some] at e
      unfold A5 at e
      split at e
      . rename_i i j
        split at e
        . rename_i hj
          cases e
          refine⟨env,F,_,ok,h1,fun vs H' fp s r c=>?_⟩
          obtain⟨v,v',f,f',rfl,r1,r2,rfl⟩:=L3 r
          rw [bH r1,bH r2]
          exact⟨i,j,rfl,hj,q _ H' [] s (qX i _) (fun b hb=>(by cases hb)) .nil⟩
        . cases e
      . cases e
noncomputable def wD:List D->Option (List D)
  | [.lst ds]=>some (ds.mapIdx fun i d=>.tup [.int i,d])
  | _=>none
theorem Z2b {elts:List Expr}{k1:Nat}{tpos p:Pos}(hg:Gl X "enumerate") (hm:X.mg "enumerate" = none) (ha:QA X m1 rs [a] fs) (hs:starEach [a] X.env=[(false,eval a X.env)]:=by rfl):QI X (.Tuple elts k1 tpos) rs (.Call (.Name "enumerate" p) [a] [] pos) (fun env=>(fs env).bind wD) :=
  .mk (Z2s hg hm ha hs) fun σ H R ⟨env,F,ds,ok,e,q⟩=>by
    cases h1:fs env with
    | none=>simp only [h1] at e;cases e
    | some xs =>
      simp only [h1,Option.bind_some] at e
      unfold wD at e
      split at e
      . cases e
        refine⟨env,F,_,ok,h1,fun vs H' fp s r c=>?_⟩
        obtain⟨v,rfl,r1⟩:=jX r
        have r0:=Rep.weak _ _ _ r1
        have dm:=Rep.dom _ _ _ r1
        obtain⟨p,ws,fp',rfl,hsq,hr,hsub⟩:=bW r1
        exact⟨p,rfl,⟨ws,hsq⟩,q _ H' fp s (J0 r0) dm ⟨c.1,fun z=>(by cases z)⟩⟩
      . cases e
noncomputable def cR (fc:En->Option Bool) (fe:En->Option D) (env:En):List D->Option (List D)
  | []=>some []
  | d :: r=>match fc (some (false,d) :: env) with
    | some true=>match fe (some (false,d) :: env),cR fc fe env r with
      | some y,some ys=>some (y :: ys)
      | _,_=>none
    | some false=>cR fc fe env r
    | none=>none
noncomputable def iF (fr:List Nat) (env:En):En:=fr.map fun j=>(env[j]?).join
noncomputable def bZ (fr:List Nat) (src:En->Option (List D)) (fc:En->Option Bool) (fe:En->Option D):En->Option D:=fun env=>match src env with
  | some ds=>if ds.length <= 1000 then (cR fc fe (iF fr env) ds).map .lst else none
  | none=>none
noncomputable def fTT:En->Option Bool:=fun _=>some true
theorem kH {fc:En->Option Bool}{fe:En->Option D}{env:En}:∀ {ds:List D}{ys:List D}{i:Nat}{d:D}{zs:List D},ds[i]? = some d->cR fc fe env ds=some ys->cR fc fe env (ds.take i)=some zs ->
    (fc (some (false,d) :: env)=some true /\ ∃ y,fe (some (false,d) :: env)=some y /\ cR fc fe env (ds.take (i + 1))=some (zs ++ [y])) \/ (fc (some (false,d) :: env)=some false /\ cR fc fe env (ds.take (i + 1))=some zs)
  | [],ys,i,d,zs,h,_,_=>by simp at h
  | d' :: ds,ys,0,d,zs,h,h1,h2=>by
    simp at h
    subst h
    simp only [List.take_zero,cR] at h2
    cases h2
    unfold cR at h1
    simp only [Nat.zero_add,List.take_succ_cons,List.take_zero,cR]
    split at h1
    . rename_i hc
      split at h1
      . rename_i y ys' e1 e2
        exact .inl ⟨hc,y,e1,by simp [hc,e1]⟩
      . cases h1
    . rename_i hc
      exact .inr ⟨hc,by simp [hc]⟩
    . cases h1
  | d' :: ds,ys,i + 1,d,zs,h,h1,h2=>by
    have h':ds[i]? = some d:=by simpa using h
    unfold cR at h1
    simp only [List.take_succ_cons] at h2 ⊢
    unfold cR at h2
    split at h1
    . rename_i hc
      split at h1
      . rename_i y ys' e1 e2
        simp only [hc,e1] at h2
        cases h3:cR fc fe env (ds.take i) with
        | none=>rw [h3] at h2;cases h2
        | some z' =>
          rw [h3] at h2
          cases h2
          rcases kH h' e2 h3 with ⟨a1,y',a2,a3⟩ | ⟨a1,a2⟩
          . exact .inl ⟨a1,y',a2,by unfold cR;simp [hc,e1,a3]⟩
          . exact .inr ⟨a1,by unfold cR;simp [hc,e1,a2]⟩
      . cases h1
    . rename_i hc
      simp only [hc] at h2
      rcases kH h' h1 h2 with ⟨a1,y',a2,a3⟩ | ⟨a1,a2⟩
      . exact .inl ⟨a1,y',a2,by unfold cR;simp [hc,a3]⟩
      . exact .inr ⟨a1,by unfold cR;simp [hc,a2]⟩
    . cases h1
theorem lO {fc:En->Option Bool}{fe:En->Option D}{env:En}:∀ {ds ys:List D},cR fc fe env ds=some ys->ys.length <= ds.length
  | [],ys,h=>by simp only [cR] at h;cases h;exact Nat.le_refl _
  | d :: ds,ys,h=>by
    unfold cR at h
    split at h
    . split at h
      . rename_i y ys' e1 e2
        cases h
        simp only [List.length_cons]
        exact Nat.succ_le_succ (lO e2)
      . cases h
    . exact Nat.le_succ_of_le (lO h)
    . cases h
end
theorem Z1w {K:Frag}{H:Hp}{σ:L2.St}{env:En}{F:Nat->List Addr}{fr:List Nat}{d:D}{v:V}{f:List Addr}(ok:EnvOk K H σ env F) (r:Rep K false H d v f) :
    ∃ F',EnvOk K H ((hG 1 fr σ).set 0 (some v)) (some (false,d) :: iF fr env) F':=by
  refine⟨fun i=>match i with | 0=>f | i + 1=>F (fr.getD i 0),fun i o d' e=>?_⟩
  cases i with
  | zero =>
    simp at e
    obtain⟨_,rfl⟩:=e
    exact⟨v,by simp [hG],r⟩
  | succ i =>
    simp only [List.getElem?_cons_succ,iF,List.getElem?_map] at e
    cases hj:fr[i]? with
    | none=>rw [hj] at e;cases e
    | some j =>
      rw [hj] at e
      simp only [Option.map_some,Option.some.injEq] at e
      cases hq:env[j]? with
      | none=>rw [hq] at e;cases e
      | some s =>
        rw [hq] at e
        simp only [Option.join_some] at e
        subst e
        obtain⟨w,h1,h2⟩:=ok j o d' hq
        refine⟨w,?_,?_⟩
        . simp [hG,hj,h1]
        . have:fr.getD i 0=j:=by simp [List.getD,hj]
          simp only [this]
          exact h2
section
variable {X:Cx}{m m' m1 m2:Bool}{rs rs' rs1 rs2:List Nat}{elt iter:Expr}{ifs:List Expr}{scope:Scope}{pos px:Pos}{x:Str}{fr:List Nat}{src:En->Option (List D)}{fc:En->Option Bool}{fe:En->Option D}
noncomputable def QTs (X:Cx) (ifs:List Expr) (f:En->Option Bool):Prop:=PTs X ifs (tDT X.K f)
theorem gQ:QTs X [] fTT:=fun pins s σ H Q I ⟨env,F,b,ok,e,q⟩=>Z2j pins s σ H Q I (by cases e;exact q H (Same.refl H))
theorem nN {c:Expr}{g:En->Option Bool}(h:QT X c g):QTs X [c] g:=fun pins s σ H Q I q=>Z2i h pins s σ H Q I q
theorem vT {K:Frag}{σ:L2.St}{H:Hp}{Q:VK}(h:tD K true [] (bZ fr src fc fe) σ H Q) :
    yF (tDI K rs src) 1 fr (tM 0) (tDT K fc) (tD K true [] fe) σ H Q:=by
  obtain⟨env,F,d,ok,e,q⟩:=h
  unfold bZ at e
  cases h1:src env with
  | none=>rw [h1] at e;cases e
  | some ds =>
    rw [h1] at e
    simp only at e
    split at e
    . rename_i hlen
      cases h2:cR fc fe (iF fr env) ds with
      | none=>rw [h2] at e;cases e
      | some ys =>
        rw [h2] at e
        cases e
        refine⟨env,F,ds,ok,h1,fun J H1 fp s1 gv dm cd=>?_⟩
        intro acc hacc
        refine⟨fun i k vs H2=>i <= ds.length /\ k=ds.length - i /\ H2 acc=some (.lst vs) /\ Same H1 H2 /\ ∃ zs f,cR fc fe (iF fr env) (ds.take i)=some zs /\ Reps K true H2 zs vs f /\ f.Nodup /\ (∀ b ∈ f,H1 b=none) /\ acc ∉ f,
          ⟨ds.length,Nat.zero_le _,rfl,aY,bM hacc,[],[],by simp [cR],by simp only [Reps];exact⟨trivial,trivial⟩,List.nodup_nil,fun b hb=>(by cases hb),by simp⟩,?_⟩
        rintro i k vs H2 ⟨hi,hk,ha,sm,zs,f,hz,hr,nd,hfr,hna⟩
        refine⟨ha,?_⟩
        have gi:=gv H2 (Kp.same sm fp) i
        by_cases hlt:i < ds.length
        . right
          have hd:ds[i]? = some ds[i]:=List.getElem?_eq_getElem hlt
          obtain⟨go,hy⟩:=gi.1 _ hd
          refine⟨go,fun x H3 y3=>?_⟩
          obtain⟨sm3,f3,r3,_⟩:=hy x H3 y3
          refine⟨⟨by simp [hG],by simp [hG]⟩,?_⟩
          have ok3:EnvOk K H3 σ env F:=ok.same ((s1.trans sm).trans sm3)
          obtain⟨F',okin⟩:=Z1w (fr:=fr) ok3 r3
          rcases kH hd h2 hz with ⟨c1,y',c2,c3⟩ | ⟨c1,c2⟩
          . refine⟨_,F',true,okin,c1,fun H4 s4=>E6 ⟨_,F',y',okin.same s4,c2,fun v H5 fp5 s5 r5 c5=>?_⟩⟩
            have s25:Same H2 H5:=(sm3.trans s4).trans s5
            have s35:Same H4 H5:=s5
            have ha5:H5 acc=some (.lst vs):=s25 _ _ ha
            have hna5:acc ∉ fp5:=fun z=>by
              have:=(c5.2 rfl).2 acc z
              rw [(sm3.trans s4) _ _ ha] at this
              cases this
            have lv:vs.length < 1000:=by
              have:=lO hz
              have h4:=hr.length
              rw [List.length_take] at this
              omega
            refine⟨vs,ha5,eJ (Nat.le_of_lt lv),ds.length - (i + 1),by omega,hlt,rfl,aY,?_,zs ++ [y'],f ++ fp5,c3,?_,?_,?_,?_⟩
            . intro b o hb
              have hba:b ≠ acc:=bI hb hacc
              rw [aX hba]
              exact s25 _ _ (sm _ _ hb)
            . have e1:=Reps.keep _ _ _ (Kp.upd (o':=.lst (vs ++ [v])) ha5 (by intro xs z;cases z) (by intro a b z;cases z) hna) (hr.same s25)
              have e2:=Rep.keep _ _ _ (Kp.upd (o':=.lst (vs ++ [v])) ha5 (by intro xs z;cases z) (by intro a b z;cases z) hna5) r5
              exact e1.snoc e2
            . refine List.nodup_append.mpr ⟨nd,(c5.2 rfl).1,fun a ha' b hb z=>?_⟩
              obtain⟨o,ho⟩:=Reps.dom _ _ _ hr a ha'
              have:=(c5.2 rfl).2 b hb
              rw [<- z,(sm3.trans s4) _ _ ho] at this
              cases this
            . intro b hb
              rcases List.mem_append.mp hb with z | z
              . exact hfr b z
              . exact ((sm.trans sm3).trans s4).free ((c5.2 rfl).2 b z)
            . intro z
              rcases List.mem_append.mp z with z | z
              . exact hna z
              . exact hna5 z
          . refine⟨_,F',false,okin,c1,fun H4 s4=>E7 ⟨ds.length - (i + 1),vs,by omega,hlt,rfl,(sm3.trans s4) _ _ ha,(sm.trans sm3).trans s4,zs,f,c2,hr.same (sm3.trans s4),nd,hfr,hna⟩⟩
        . left
          have hi':i=ds.length:=by omega
          refine⟨gi.2 (by omega),?_⟩
          have hz':cR fc fe (iF fr env) ds=some zs:=by rw [hi',List.take_length] at hz;exact hz
          rw [h2] at hz'
          cases hz'
          refine q _ H2 (acc :: f) (s1.trans sm) ?_ ⟨fun b hb=>?_,fun _=>⟨List.nodup_cons.mpr ⟨hna,nd⟩,fun b hb=>?_⟩⟩
          . simp only [Rep]
            exact⟨acc,vs,f,rfl,hr,.inl ⟨rfl,ha⟩⟩
          . rcases List.mem_cons.mp hb with z | z
            . exact .inl (by rw [z];exact s1.free hacc)
            . exact .inl (s1.free (hfr b z))
          . rcases List.mem_cons.mp hb with z | z
            . rw [z];exact s1.free hacc
            . exact s1.free (hfr b z)
    . cases e
theorem iB (hc:X.calm=true) (chk:gR X.env.scope X.N scope fr=true) (hi:QI X (.Name x px) rs iter src)
    (hnd:(eI [x] fr X.N).Nodup) (hx:scope.names.lookup x=some .local)
    (ht:∀ cl C s0 H0 ex pins,QTs (eQ X (eI [x] fr X.N) scope cl C s0 H0 ex pins) ifs fc)
    (he:∀ cl C s0 H0 ex pins,QE (eQ X (eI [x] fr X.N) scope cl C s0 H0 ex pins) true [] elt fe)
    (hs:∀ x,foldedSetIterable iter X.env x=pure x:=by intro _;rfl) :
    QE X true [] (.ListComp elt [⟨.Name x px,iter,ifs,0⟩] scope pos) (bZ fr src fc fe) :=
  .mk (M8 (tgs:=[x]) (tt:=tDT X.K fc) (te:=tD X.K true [] fe) hc chk hi (fun cl C s0 H0 ex pins=>fN (i:=0) hnd rfl (.inl (lookup_relabel_local hx)) (.inr (lookup_relabel_local hx))) ht he hs) fun σ H Q h=>vT h
end
structure EnvS (K:Frag) (P H:Hp) (σ:L2.St) (env:En) (F:Nat->List Addr):Prop where
  ok:EnvOk K H σ env F
  own:∀ i d,env[i]? = some (some (true,d))->(F i).Nodup /\ (∀ b ∈ F i,P b=none) /\ (∀ v,σ[i]? = some (some v)->Rep K true H d v (F i)) /\ ∀ j s,j ≠ i->env[j]? = some (some s)->∀ b ∈ F i,b ∉ F j
structure SInv (K:Frag) (P H:Hp) (σ:L2.St) (env:En):Prop where
  same:Same P H
  len:σ.length=env.length
  ex:∃ F,EnvS K P H σ env F
theorem EnvS.dom {K:Frag}{P H:Hp}{σ:L2.St}{env:En}{F:Nat->List Addr}(h:EnvS K P H σ env F) {i:Nat}{s:Bool × D}(e:env[i]? = some (some s)):∀ b ∈ F i,∃ o,H b=some o:=by
  obtain⟨o,d⟩:=s
  obtain⟨v,_,r⟩:=h.ok i o d e
  exact Rep.dom _ _ _ r
theorem EnvS.grow {K:Frag}{P H H':Hp}{σ:L2.St}{env:En}{F:Nat->List Addr}(h:EnvS K P H σ env F) (s:Same H H'):EnvS K P H' σ env F :=
  ⟨h.ok.same s,fun i d e=>let ⟨a,b,c,q⟩:=h.own i d e;⟨a,b,fun v hv=>(c v hv).same s,q⟩⟩
theorem SInv.grow {K:Frag}{P H H':Hp}{σ:L2.St}{env:En}(h:SInv K P H σ env) (s:Same H H'):SInv K P H' σ env :=
  ⟨h.same.trans s,h.len,let ⟨F,hF⟩:=h.ex;⟨F,hF.grow s⟩⟩
inductive Res where
  | next (env:En) | ret (d:D) | brk (env:En) | cont (env:En) | bad
noncomputable def Z4o (K:Frag) (P:Hp) (E:A7):Res->Prop
  | .next env=>∀ σ H,SInv K P H σ env->E.nx σ H
  | .ret d=>∀ v H fp,Same P H->Rep K true H d v fp->(∀ b ∈ fp,P b=none)->fp.Nodup->E.rt v H
  | .brk env=>∀ σ H,SInv K P H σ env->E.bk σ H
  | .cont env=>∀ σ H,SInv K P H σ env->E.ct σ H
  | .bad=>False
noncomputable def tDS (K:Frag) (g:En->Res):TS:=fun E σ H=>∃ P env,SInv K P H σ env /\ Z4o K P E (g env)
noncomputable def QS (X:Cx) (st:Stmt) (g:En->Res):Prop:=PS X st (tDS X.K g)
noncomputable def QSs (X:Cx) (st:List Stmt) (g:En->Res):Prop:=PSs X st (tDS X.K g)
theorem QS.mk {X:Cx}{st:Stmt}{g:En->Res}{t:TS}(h:PS X st t) (hi:∀ E σ H,tDS X.K g E σ H->t E σ H):QS X st g:=fun pins s σ H E I q=>h pins s σ H E I (hi E σ H q)
theorem QSs.mk {X:Cx}{st:List Stmt}{g:En->Res}{t:TS}(h:PSs X st t) (hi:∀ E σ H,tDS X.K g E σ H->t E σ H):QSs X st g:=fun pins s σ H E I q=>h pins s σ H E I (hi E σ H q)
noncomputable def J3 (F:Nat->List Addr) (i:Nat) (f:List Addr):Nat->List Addr:=fun j=>if j=i then f else F j
theorem bN {F:Nat->List Addr}{i:Nat}{f:List Addr}:J3 F i f i=f:=if_pos rfl
theorem bA {F:Nat->List Addr}{i j:Nat}{f:List Addr}(h:j ≠ i):J3 F i f j=F j:=if_neg h
theorem cQ {α:Type}{l:List α}{i j:Nat}{x:α}(h:i < l.length):(l.set i x)[j]? = if j=i then some x else l[j]?:=by
  by_cases e:j=i
  . subst e;rw [if_pos rfl,List.getElem?_set_self h]
  . rw [if_neg e,List.getElem?_set_ne (Ne.symm e)]
theorem uX {K:Frag}{P H H':Hp}{σ:L2.St}{env:En}{F:Nat->List Addr}{d:D}{v:V}{fp:List Addr}(i:Nat) (sm:Same P H) (hl:σ.length=env.length) (h:EnvS K P H σ env F) (s:Same H H') (r:Rep K true H' d v fp) (nd:fp.Nodup) (fr:∀ b ∈ fp,H b=none) :
    SInv K P H' (σ.set i (some v)) (env.set i (some (true,d))):=by
  refine⟨sm.trans s,by simp [hl],J3 F i fp,?_,?_⟩
  . intro j o d' e
    by_cases hi:i < env.length
    . rw [cQ hi] at e
      by_cases hj:j=i
      . subst hj
        rw [if_pos rfl] at e
        cases e
        exact⟨v,List.getElem?_set_self (by omega),by rw [bN];exact Rep.weak _ _ _ r⟩
      . rw [if_neg hj] at e
        obtain⟨w,h1,h2⟩:=h.ok j o d' e
        exact⟨w,by rw [List.getElem?_set_ne (Ne.symm hj)];exact h1,by rw [bA hj];exact h2.same s⟩
    . rw [List.set_eq_of_length_le (by omega)] at e
      have hj:j ≠ i:=fun z=>by rw [z,List.getElem?_eq_none (by omega)] at e;cases e
      obtain⟨w,h1,h2⟩:=h.ok j o d' e
      exact⟨w,by rw [List.getElem?_set_ne (Ne.symm hj)];exact h1,by rw [bA hj];exact h2.same s⟩
  . intro j d' e
    by_cases hi:i < env.length
    . rw [cQ hi] at e
      by_cases hj:j=i
      . subst hj
        rw [if_pos rfl] at e
        cases e
        refine⟨by rw [bN];exact nd,fun b hb=>?_,fun w hw=>?_,fun k s' hk ek b hb=>?_⟩
        . rw [bN] at hb
          cases hP:P b with
          | none=>rfl
          | some o=>have:=sm _ _ hP;rw [fr b hb] at this;cases this
        . rw [List.getElem?_set_self (by omega)] at hw
          cases hw
          rw [bN];exact r
        . rw [bN] at hb
          rw [bA hk]
          rw [cQ hi,if_neg hk] at ek
          intro z
          obtain⟨o,ho⟩:=h.dom ek b z
          rw [fr b hb] at ho;cases ho
      . rw [if_neg hj] at e
        obtain⟨a1,a2,a3,a4⟩:=h.own j d' e
        refine⟨by rw [bA hj];exact a1,fun b hb=>a2 b (by rw [bA hj] at hb;exact hb),fun w hw=>?_,fun k s' hk ek b hb=>?_⟩
        . rw [List.getElem?_set_ne (Ne.symm hj)] at hw
          rw [bA hj];exact (a3 w hw).same s
        . rw [bA hj] at hb
          rw [cQ hi] at ek
          by_cases hki:k=i
          . subst hki
            rw [bN]
            intro z
            obtain⟨o,ho⟩:=h.dom e b hb
            rw [fr b z] at ho;cases ho
          . rw [if_neg hki] at ek
            rw [bA hki]
            exact a4 k s' hk ek b hb
    . rw [List.set_eq_of_length_le (by omega)] at e
      have hj:j ≠ i:=fun z=>by rw [z,List.getElem?_eq_none (by omega)] at e;cases e
      obtain⟨a1,a2,a3,a4⟩:=h.own j d' e
      refine⟨by rw [bA hj];exact a1,fun b hb=>a2 b (by rw [bA hj] at hb;exact hb),fun w hw=>?_,fun k s' hk ek b hb=>?_⟩
      . rw [List.getElem?_set_ne (Ne.symm hj)] at hw
        rw [bA hj];exact (a3 w hw).same s
      . rw [bA hj] at hb
        rw [List.set_eq_of_length_le (by omega)] at ek
        have hki:k ≠ i:=fun z=>by rw [z,List.getElem?_eq_none (by omega)] at ek;cases ek
        rw [bA hki]
        exact a4 k s' hk ek b hb
theorem yG {K:Frag}{P H H':Hp}{σ:L2.St}{env:En}{F:Nat->List Addr}{d:D}{v:V}{fp:List Addr}(i:Nat) (sm:Same P H) (hl:σ.length=env.length) (h:EnvS K P H σ env F) (s:Same H H') (r:Rep K false H' d v fp)
    (fr:∀ j d',env[j]? = some (some (true,d'))->∀ b ∈ F j,b ∉ fp):SInv K P H' (σ.set i (some v)) (env.set i (some (false,d))):=by
  refine⟨sm.trans s,by simp [hl],J3 F i fp,?_,?_⟩
  . intro j o d' e
    by_cases hi:i < env.length
    . rw [cQ hi] at e
      by_cases hj:j=i
      . subst hj
        rw [if_pos rfl] at e
        cases e
        exact⟨v,List.getElem?_set_self (by omega),by rw [bN];exact r⟩
      . rw [if_neg hj] at e
        obtain⟨w,h1,h2⟩:=h.ok j o d' e
        exact⟨w,by rw [List.getElem?_set_ne (Ne.symm hj)];exact h1,by rw [bA hj];exact h2.same s⟩
    . rw [List.set_eq_of_length_le (by omega)] at e
      have hj:j ≠ i:=fun z=>by rw [z,List.getElem?_eq_none (by omega)] at e;cases e
      obtain⟨w,h1,h2⟩:=h.ok j o d' e
      exact⟨w,by rw [List.getElem?_set_ne (Ne.symm hj)];exact h1,by rw [bA hj];exact h2.same s⟩
  . intro j d' e
    have hji:j ≠ i:=by
      rintro rfl
      by_cases hi:j < env.length
      . rw [cQ hi,if_pos rfl] at e;cases e
      . rw [List.set_eq_of_length_le (by omega),List.getElem?_eq_none (by omega)] at e;cases e
    rw [List.getElem?_set_ne (Ne.symm hji)] at e
    obtain⟨a1,a2,a3,a4⟩:=h.own j d' e
    refine⟨by rw [bA hji];exact a1,fun b hb=>a2 b (by rw [bA hji] at hb;exact hb),fun w hw=>?_,fun k s' hk ek b hb=>?_⟩
    . rw [List.getElem?_set_ne (Ne.symm hji)] at hw
      rw [bA hji];exact (a3 w hw).same s
    . rw [bA hji] at hb
      by_cases hki:k=i
      . subst hki
        rw [bN]
        exact fr j d' e b hb
      . rw [List.getElem?_set_ne (Ne.symm hki)] at ek
        rw [bA hki]
        exact a4 k s' hk ek b hb
noncomputable def fz1 (r:Nat) (env:En):En:=match env[r]? with
  | some (some (_,d))=>env.set r (some (false,d))
  | _=>env
noncomputable def fz:List Nat->En->En
  | [],env=>env
  | r :: rs,env=>fz rs (fz1 r env)
theorem Z2W {r:Nat}{env:En}:(fz1 r env).length=env.length:=by
  unfold fz1;split <;> simp
theorem O3 {r j:Nat}{env:En}:(fz1 r env)[j]? = if j=r then (env[j]?).map (Option.map fun p=>(false,p.2)) else env[j]?:=by
  unfold fz1
  split
  . rename_i o d h
    have hr:r < env.length:=(List.getElem?_eq_some_iff.mp h).1
    rw [cQ hr]
    by_cases hj:j=r
    . subst hj;simp [h]
    . simp [hj]
  . rename_i h
    by_cases hj:j=r
    . subst hj
      rw [if_pos rfl]
      cases h1:env[j]? with
      | none=>rfl
      | some o =>
        cases o with
        | none=>rfl
        | some p=>exact absurd h1 (h p.1 p.2)
    . rw [if_neg hj]
theorem EnvS.fz1 {K:Frag}{P H:Hp}{σ:L2.St}{env:En}{F:Nat->List Addr}(r:Nat) (h:EnvS K P H σ env F):EnvS K P H σ (PD.fz1 r env) F:=by
  have back:∀ {j:Nat}{o:Bool}{d:D},(PD.fz1 r env)[j]? = some (some (o,d))->∃ o',env[j]? = some (some (o',d)) /\ (j=r->o=false) /\ (j ≠ r->o'=o):=by
    intro j o d e
    rw [O3] at e
    by_cases hj:j=r
    . rw [if_pos hj] at e
      cases h1:env[j]? with
      | none=>rw [h1] at e;cases e
      | some s =>
        cases s with
        | none=>rw [h1] at e;cases e
        | some p =>
          rw [h1] at e
          cases e
          exact⟨p.1,rfl,fun _=>rfl,fun z=>absurd hj z⟩
    . rw [if_neg hj] at e
      exact⟨o,e,fun z=>absurd z hj,fun _=>rfl⟩
  refine⟨fun j o d e=>?_,fun j d e=>?_⟩
  . obtain⟨o',h1,_⟩:=back e
    exact h.ok j o' d h1
  . obtain⟨o',h1,h2,h3⟩:=back e
    have hj:j ≠ r:=fun z=>by cases h2 z
    have:=h3 hj
    subst this
    obtain⟨a1,a2,a3,a4⟩:=h.own j d h1
    refine⟨a1,a2,a3,fun k s hk ek b hb=>?_⟩
    obtain⟨o2,d2⟩:=s
    obtain⟨o3,h4,_⟩:=back ek
    exact a4 k _ hk h4 b hb
theorem EnvS.fz {K:Frag}{P H:Hp}{σ:L2.St}{F:Nat->List Addr}:∀ (rs:List Nat) {env:En},EnvS K P H σ env F->EnvS K P H σ (PD.fz rs env) F
  | [],_,h=>h
  | r :: rs,_,h=>EnvS.fz rs (h.fz1 r)
theorem xG:∀ (rs:List Nat) {env:En},(fz rs env).length=env.length
  | [],_=>rfl
  | r :: rs,env=>by show (fz rs (fz1 r env)).length=_;rw [xG rs,Z2W]
theorem Z1m:∀ (rs:List Nat) {env:En}{j:Nat}{d:D},(fz rs env)[j]? = some (some (true,d))->j ∉ rs /\ env[j]? = some (some (true,d))
  | [],env,j,d,e=>⟨by simp,e⟩
  | r :: rs,env,j,d,e=>by
    obtain⟨h1,h2⟩:=Z1m rs (env:=fz1 r env) e
    rw [O3] at h2
    by_cases hj:j=r
    . rw [if_pos hj] at h2
      cases h3:env[j]? with
      | none=>rw [h3] at h2;cases h2
      | some s =>
        cases s with
        | none=>rw [h3] at h2;cases h2
        | some p=>rw [h3] at h2;cases h2
    . rw [if_neg hj] at h2
      exact⟨by simp [hj,h1],h2⟩
noncomputable def nrm (env:En) (F:Nat->List Addr):Nat->List Addr:=fun i=>match env[i]? with | some (some _)=>F i | _=>[]
theorem sS {env:En}{F:Nat->List Addr}{i:Nat}{s:Bool × D}(h:env[i]? = some (some s)):nrm env F i=F i:=by unfold nrm;rw [h]
theorem Z2D {env:En}{F:Nat->List Addr}{i:Nat}{b:Addr}(h:b ∈ nrm env F i):∃ s,env[i]? = some (some s):=by
  unfold nrm at h
  split at h
  . rename_i s e;exact⟨s,e⟩
  . cases h
theorem EnvS.nrm {K:Frag}{P H:Hp}{σ:L2.St}{env:En}{F:Nat->List Addr}(h:EnvS K P H σ env F):EnvS K P H σ env (PD.nrm env F):=by
  refine⟨fun i o d e=>by rw [sS e];exact h.ok i o d e,fun i d e=>?_⟩
  obtain⟨a1,a2,a3,a4⟩:=h.own i d e
  rw [sS e]
  exact⟨a1,a2,a3,fun j s hj ej=>by rw [sS ej];exact a4 j s hj ej⟩
section
variable {X:Cx}{m m' m1 m2:Bool}{rs rs' rs1 rs2:List Nat}{e a b c:Expr}{es rest:List Expr}{f fa fb fc:En->Option D}{c':En->Option Bool}{pos p pos':Pos}{st:Stmt}{sts:List Stmt}{g h:En->Res}{i:Nat}{x:Str}
noncomputable def aO (g h:En->Res):En->Res:=fun env=>match g env with
  | .next env'=>h env'
  | r=>r
noncomputable def cK:En->Res:=.next
theorem bO:QSs X [] cK:=.mk Z2l fun E σ H ⟨P,env,I,q⟩=>q σ H I
theorem aF (h1:QS X st g) (h2:QSs X sts h):QSs X (st :: sts) (aO g h):=.mk (sM h1 h2) fun E σ H ⟨P,env,I,q⟩=>by
  refine⟨P,env,I,?_⟩
  unfold aO at q
  cases hg:g env with
  | next env'=>rw [hg] at q;exact fun σ' H' I'=>⟨P,env',I',q⟩
  | ret d=>rw [hg] at q;exact q
  | brk _=>rw [hg] at q;exact q
  | cont _=>rw [hg] at q;exact q
  | bad=>rw [hg] at q;exact q
theorem aH (h1:QS X st g):QSs X [st] g:=.mk (M6 h1) fun E σ H q=>q
noncomputable def rIf (c:En->Option Bool) (g h:En->Res):En->Res:=fun env=>match c env with
  | some true=>g env
  | some false=>h env
  | none=>.bad
theorem cZ {sa sb:List Stmt}(hc:QT X c c') (ha:QSs X sa g) (hb:QSs X sb h):QS X (.If c sa sb pos) (rIf c' g h):=.mk (Z4Y hc ha hb) fun E σ H ⟨P,env,I,q⟩=>by
  obtain⟨F,hF⟩:=I.ex
  unfold rIf at q
  split at q
  . rename_i h1
    exact⟨env,F,true,hF.ok,h1,fun H' s=>E6 ⟨P,env,I.grow s,q⟩⟩
  . rename_i h1
    exact⟨env,F,false,hF.ok,h1,fun H' s=>E7 ⟨P,env,I.grow s,q⟩⟩
  . exact q.elim
noncomputable def cD (f:En->Option D):En->Res:=fun env=>match f env with
  | some d=>.ret d
  | none=>.bad
theorem bB (he:QE X true [] e f):QS X (.Return (some e) pos) (cD f):=.mk (wO he) fun E σ H ⟨P,env,I,q⟩=>by
  obtain⟨F,hF⟩:=I.ex
  unfold cD at q
  split at q
  . rename_i d h1
    refine⟨env,F,d,hF.ok,h1,fun v H' fp s r c=>q v H' fp (I.same.trans s) r (fun b hb=>?_) (c.2 rfl).1⟩
    cases hP:P b with
    | none=>rfl
    | some o=>have:=I.same _ _ hP;rw [(c.2 rfl).2 b hb] at this;cases this
  . exact q.elim
theorem jK (hN:X.N[i]? = some x:=by rfl) (hv:Vis X.env.scope x:=by first | exact Or.inl rfl | exact Or.inr (Or.inl rfl) | exact Or.inr (Or.inr rfl)) (hd:(x == ("__debug__" : Str))=false:=by decide) (hcd:(x == ("__classdict__" : Str))=false:=by decide) :
    QS X (.Return (some (.Name x p)) pos) (fun env=>match env[i]? with | some (some (true,d))=>.ret d | _=>.bad):=.mk (wO (jA hN hv hd hcd)) fun E σ H ⟨P,env,I,q⟩=>by
  obtain⟨F,hF⟩:=I.ex
  simp only at q
  split at q
  . rename_i d h1
    obtain⟨v,h2,_⟩:=hF.ok i true d h1
    obtain⟨a1,a2,a3,_⟩:=hF.own i d h1
    exact⟨v,h2,q v H _ I.same (a3 v h2) a2 a1⟩
  . exact q.elim
noncomputable def bV (i:Nat) (f:En->Option D):En->Res:=fun env=>match f env with
  | some d=>.next (env.set i (some (true,d)))
  | none=>.bad
theorem vA {K:Frag}{E:A7}{σ:L2.St}{H:Hp}{i:Nat}{f:En->Option D}(h:tDS K (bV i f) E σ H):Q7 (tD K true [] f) (tM i) E σ H:=by
  obtain⟨P,env,I,q⟩:=h
  obtain⟨F,hF⟩:=I.ex
  unfold bV at q
  split at q
  . rename_i d h1
    exact⟨env,F,d,hF.ok,h1,fun v H' fp s r c=>q _ H' (uX i I.same I.len hF s r (c.2 rfl).1 (c.2 rfl).2)⟩
  . exact q.elim
theorem aU (hN:X.N.Nodup) (hi:X.N[i]? = some x) (hx:Loc X.env.scope x) (he:QE X true [] e f) (hs:swapsWith e (some (.Name x pos')) pos.line X.env=pure false:=by rfl) (hf:X.fn x=true \/ X.env.scope.names.lookup x=some .local:=by first | exact .inl rfl | exact .inr rfl | assumption) :
    QS X (.Assign [.Name x pos'] e pos) (bV i f):=.mk (Z0z hN hi hx he hs hf) fun E σ H q=>vA q
theorem oK {elt iter:Expr}{ifs:List Expr}{scope:Scope}{px spos:Pos}{y:Str}{fr:List Nat}{src:En->Option (List D)}{fc:En->Option Bool}{fe:En->Option D}
    (hc:X.calm=true) (hN:X.N.Nodup) (hi':X.N[i]? = some x) (hx':Loc X.env.scope x) (chk:gR X.env.scope X.N scope fr=true) (hi:QI X (.Name y px) rs iter src)
    (hnd:(eI [y] fr X.N).Nodup) (hx:scope.names.lookup y=some .local)
    (ht:∀ cl C s0 H0 ex pins,QTs (eQ X (eI [y] fr X.N) scope cl C s0 H0 ex pins) ifs fc)
    (he:∀ cl C s0 H0 ex pins,QE (eQ X (eI [y] fr X.N) scope cl C s0 H0 ex pins) true [] elt fe)
    (hsw:swapsWith (.ListComp elt [⟨.Name y px,iter,ifs,0⟩] scope pos) (some (.Name x pos')) spos.line X.env=pure true:=by rfl)
    (hf:X.fn x=true \/ X.env.scope.names.lookup x=some .local:=by first | exact .inl rfl | exact .inr rfl | assumption)
    (hs:∀ x,foldedSetIterable iter X.env x=pure x:=by intro _;rfl) :
    QS X (.Assign [.Name x pos'] (.ListComp elt [⟨.Name y px,iter,ifs,0⟩] scope pos) spos) (bV i (bZ fr src fc fe)) :=
  .mk (sN (tgs:=[y]) (tt:=tDT X.K fc) (te:=tD X.K true [] fe) hc hN hi' hx' chk hi (fun cl C s0 H0 ex pins=>fN (i:=0) hnd rfl (.inl (lookup_relabel_local hx)) (.inr (lookup_relabel_local hx))) ht he hsw hf hs)
    fun E σ H q=>vT (vA q)
noncomputable def vC (i:Nat) (rs:List Nat) (f:En->Option D):En->Res:=fun env=>match f env with
  | some d=>.next ((fz rs env).set i (some (false,d)))
  | none=>.bad
theorem sD {K:Frag}{P H:Hp}{σ:L2.St}{env:En}{F:Nat->List Addr}{fp:List Addr}(hF:EnvS K P H σ env F) (c:Cond (nrm env F) H m rs fp):∀ j d',(fz rs env)[j]? = some (some (true,d'))->∀ b ∈ nrm env F j,b ∉ fp:=by
  intro j d' e b hb z
  obtain⟨h1,h2⟩:=Z1m rs e
  rcases c.1 b z with y | ⟨r,hr,y⟩
  . obtain⟨o,ho⟩:=hF.nrm.dom h2 b hb
    rw [y] at ho;cases ho
  . obtain⟨s,hs⟩:=Z2D y
    exact (hF.nrm.own j d' h2).2.2.2 r s (fun z=>h1 (z ▸ hr)) hs b hb y
noncomputable def iW (i:Nat) (f:En->Option D):En->Res:=fun env=>match f env,env[i]? with
  | some d,some (some (true,.lst ds))=>if ds.length <= 1000 then .next (env.set i (some (true,.lst (ds ++ [d])))) else .bad
  | _,_=>.bad
theorem uS {K:Frag}{P H:Hp}{σ:L2.St}{env:En}{F:Nat->List Addr}{i:Nat}{ds ds':List D}{a:Addr}{vs vs':List V}{fp' fp2:List Addr}(sm:Same P H) (hl:σ.length=env.length) (h:EnvS K P H σ env F) (ei:env[i]? = some (some (true,.lst ds)))
    (hv:σ[i]? = some (some (.ref a))) (hF:F i=a :: fp') (ha:H a=some (.lst vs)) (r:Reps K true H ds' vs' fp2) (nd:(a :: fp2).Nodup) (hn:∀ b ∈ fp2,b ∈ fp' \/ (P b=none /\ ∀ j s,env[j]? = some (some s)->b ∉ F j)) :
    SInv K P (upd H a (.lst vs')) σ (env.set i (some (true,.lst ds'))):=by
  have hi:i < env.length:=(List.getElem?_eq_some_iff.mp ei).1
  obtain⟨o1,o2,o3,o4⟩:=h.own i _ ei
  have ha0:a ∈ F i:=by rw [hF];exact List.mem_cons_self
  have kp:∀ {fp:List Addr},a ∉ fp->Kp fp H (upd H a (.lst vs')):=fun hn=>Kp.upd ha (by intro xs z;cases z) (by intro x u z;cases z) hn
  have na:a ∉ fp2:=(List.nodup_cons.mp nd).1
  have new:∀ st,Rep K st (upd H a (.lst vs')) (.lst ds') (.ref a) (a :: fp2):=fun st=>by
    have r':=Reps.keep _ _ _ (kp na) r
    cases st with
    | true=>simp only [Rep];exact⟨a,vs',fp2,rfl,r',.inl ⟨rfl,aY⟩⟩
    | false=>simp only [Rep];exact⟨a,vs',fp2,rfl,Reps.weak _ _ _ r',.inl ⟨rfl,aY⟩⟩
  refine⟨fun b o e=>?_,by simp [hl],J3 F i (a :: fp2),fun j o d e=>?_,fun j d e=>?_⟩
  . have:b ≠ a:=fun z=>by have:=o2 a ha0;rw [z,this] at e;cases e
    rw [aX this];exact sm _ _ e
  . rw [cQ hi] at e
    by_cases hj:j=i
    . subst hj
      rw [if_pos rfl] at e
      cases e
      exact⟨_,hv,by rw [bN];exact new false⟩
    . rw [if_neg hj] at e
      obtain⟨w,h1,h2⟩:=h.ok j o d e
      exact⟨w,h1,by rw [bA hj];exact Rep.keep _ _ _ (kp (o4 j _ hj e a ha0)) h2⟩
  . rw [cQ hi] at e
    by_cases hj:j=i
    . subst hj
      rw [if_pos rfl] at e
      cases e
      refine⟨by rw [bN];exact nd,fun b hb=>?_,fun w hw=>?_,fun k s hk ek b hb=>?_⟩
      . rw [bN] at hb
        rcases List.mem_cons.mp hb with z | z
        . rw [z];exact o2 a ha0
        . rcases hn b z with y | y
          . exact o2 b (by rw [hF];exact List.mem_cons_of_mem _ y)
          . exact y.1
      . rw [hv] at hw
        cases hw
        rw [bN];exact new true
      . rw [bN] at hb
        rw [bA hk]
        rw [cQ hi,if_neg hk] at ek
        rcases List.mem_cons.mp hb with z | z
        . rw [z];exact o4 k s hk ek a ha0
        . rcases hn b z with y | y
          . exact o4 k s hk ek b (by rw [hF];exact List.mem_cons_of_mem _ y)
          . exact y.2 k s ek
    . rw [if_neg hj] at e
      obtain⟨a1,a2,a3,a4⟩:=h.own j d e
      refine⟨by rw [bA hj];exact a1,fun b hb=>a2 b (by rw [bA hj] at hb;exact hb),fun w hw=>by rw [bA hj];exact Rep.keep _ _ _ (kp (o4 j _ hj e a ha0)) (a3 w hw),fun k s hk ek b hb=>?_⟩
      rw [bA hj] at hb
      rw [cQ hi] at ek
      by_cases hki:k=i
      . subst hki
        rw [bN]
        intro z
        rcases List.mem_cons.mp z with z | z
        . exact a4 k _ hk ei b hb (by rw [z];exact ha0)
        . rcases hn b z with y | y
          . exact a4 k _ hk ei b hb (by rw [hF];exact List.mem_cons_of_mem _ y)
          . exact y.2 j _ e hb
      . rw [if_neg hki] at ek
        rw [bA hki]
        exact a4 k s hk ek b hb
theorem S8 {apos cpos:Pos}(hN:X.N[i]? = some x) (hv:Vis X.env.scope x) (he:QE X true [] e f) (hd:(x == ("__debug__" : Str))=false:=by decide) (hcd:(x == ("__classdict__" : Str))=false:=by decide)
    (hst:starEach [e] X.env=(false,eval e X.env) :: starEach [] X.env:=by rfl)
    (hpe:PE X (.Call (.Attribute (.Name x p) "append" apos) [e] [] cpos) (tBM X.K "list" wK (wG i) (uW (tD X.K true [] f) Q4)))
    (hs:swapsWith (.Call (.Attribute (.Name x p) "append" apos) [e] [] cpos) none pos.line X.env=pure false:=by rfl) :
    QS X (.Expr (.Call (.Attribute (.Name x p) "append" apos) [e] [] cpos) pos) (iW i f):=.mk (M7 hpe hs) fun E σ H ⟨P,env,I,q⟩=>by
  obtain⟨F,hF⟩:=I.ex
  unfold iW at q
  split at q
  . rename_i d ds h1 h2
    split at q
    . rename_i hl
      obtain⟨v,hv1,_⟩:=hF.ok i true _ h2
      obtain⟨o1,o2,o3,o4⟩:=hF.own i _ h2
      obtain⟨a,vs,fp',rfl,hFi,ha,hr⟩:=mU (o3 v hv1)
      refine⟨.ref a,hv1,.inl ⟨rfl,vs,SqL.of ha⟩,env,F,d,hF.ok,h1,fun v' H' fp s r c=>?_⟩
      have ha':=s _ _ ha
      refine⟨a,vs,v',rfl,rfl,ha',eJ (by rw [hr.length];exact hl),q _ _ ?_⟩
      refine uS (fp2:=fp' ++ fp) (I.same.trans s) I.len (hF.grow s) h2 hv1 hFi ha' ((hr.same s).snoc r) ?_ ?_
      . rw [hFi] at o1
        obtain⟨n1,n2⟩:=List.nodup_cons.mp o1
        refine List.nodup_cons.mpr ⟨fun z=>?_,List.nodup_append.mpr ⟨n2,(c.2 rfl).1,fun b hb b' hb' z=>?_⟩⟩
        . rcases List.mem_append.mp z with z | z
          . exact n1 z
          . have:=(c.2 rfl).2 a z;rw [ha] at this;cases this
        . obtain⟨o,ho⟩:=Reps.dom _ _ _ hr b hb
          have:=(c.2 rfl).2 b' hb'
          rw [<- z,ho] at this;cases this
      . intro b hb
        rcases List.mem_append.mp hb with z | z
        . exact .inl z
        . refine .inr ⟨I.same.free ((c.2 rfl).2 b z),fun j s' ej hz=>?_⟩
          obtain⟨o,ho⟩:=hF.dom ej b hz
          rw [(c.2 rfl).2 b z] at ho;cases ho
    . exact q.elim
  . exact q.elim
noncomputable def yL (i:Nat) (fk f:En->Option D):En->Res:=fun env=>match f env,fk env,env[i]? with
  | some d,some (.int k),some (some (true,.lst ds))=>match ixN ds.length k with
    | some j=>if flats ds=true /\ flat d=true then .next (env.set i (some (true,.lst (ds.set j d)))) else .bad
    | none=>.bad
  | _,_,_=>.bad
theorem Reps.set {K:Frag}{H:Hp}:∀ {ds:List D}{vs:List V}{d:D}{v:V}(j:Nat),Reps K true H ds vs []->Rep K true H d v []->Reps K true H (ds.set j d) (vs.set j v) []
  | [],vs,d,v,j,r,_=>by simp only [Reps] at r;obtain⟨rfl,_⟩:=r;simp only [List.set_nil,Reps];exact⟨trivial,trivial⟩
  | d' :: ds,vs,d,v,0,r,r'=>by
    simp only [Reps] at r
    obtain⟨w,us,f1,f2,rfl,e,h1,h2⟩:=r
    obtain⟨rfl,rfl⟩:=List.append_eq_nil_iff.mp e.symm
    simp only [List.set_cons_zero,Reps]
    exact⟨v,us,[],[],rfl,rfl,r',h2⟩
  | d' :: ds,vs,d,v,j + 1,r,r'=>by
    simp only [Reps] at r
    obtain⟨w,us,f1,f2,rfl,e,h1,h2⟩:=r
    obtain⟨rfl,rfl⟩:=List.append_eq_nil_iff.mp e.symm
    simp only [List.set_cons_succ,Reps]
    exact⟨w,us.set j v,[],[],rfl,rfl,h1,Reps.set j h2 r'⟩
theorem Z3J {k:Expr}{fk:En->Option D}{spos:Pos}(hN:X.N[i]? = some x) (hv:Vis X.env.scope x) (he:QE X m1 rs1 e f) (hk:QE X m2 rs2 k fk) (hd:(x == ("__debug__" : Str))=false:=by decide) (hcd:(x == ("__classdict__" : Str))=false:=by decide)
    (hps:PS X (.Assign [.Subscript (.Name x p) k spos] e pos) (Q7 (tD X.K m1 rs1 f) (Z5j (wG i) (tD X.K m2 rs2 fk) Z3h))) :
    QS X (.Assign [.Subscript (.Name x p) k spos] e pos) (yL i fk f):=.mk hps fun E σ H ⟨P,env,I,q⟩=>by
  obtain⟨F,hF⟩:=I.ex
  unfold yL at q
  split at q
  . rename_i d kk ds h1 h2 h3
    split at q
    . rename_i j hj
      split at q
      . rename_i hfl
        obtain⟨v,hv1,_⟩:=hF.ok i true _ h3
        obtain⟨o1,o2,o3,o4⟩:=hF.own i _ h3
        obtain⟨a,vs,fp',rfl,hFi,ha,hr⟩:=mU (o3 v hv1)
        refine⟨env,F,d,hF.ok,h1,fun v' H1 fp s1 r1 c1=>⟨.ref a,hv1,env,F,_,hF.ok.same s1,h2,fun w H2 f2 s2 r2 c2=>?_⟩⟩
        rw [bH r2]
        have ha':=(s1.trans s2) _ _ ha
        refine⟨a,vs,kk,j,rfl,rfl,ha',by rw [hr.length];exact hj,q _ _ ?_⟩
        obtain⟨g1,g2⟩:=Reps.flat _ _ _ hfl.1 hr
        obtain⟨g3,g4⟩:=Rep.flat _ _ _ hfl.2 (r1.same s2)
        subst g1
        refine uS (fp2:=[]) (I.same.trans (s1.trans s2)) I.len (hF.grow (s1.trans s2)) h3 hv1 hFi ha' (Reps.set j ((g2 true).same (s1.trans s2)) (g4 true)) (by simp) (fun b hb=>(by cases hb))
      . exact q.elim
    . exact q.elim
  . exact q.elim
end
mutual
theorem Rep.kind {K:Frag}{st:Bool}{H:Hp}:∀ (d:D) (v:V) (fp:List Addr),Rep K st H d v fp->∀ b ∈ fp,(∀ xs,H b ≠ some (.tup xs)) /\ ∀ o u,H b ≠ some (.frz o u)
  | .non,v,fp,h,b,hb=>by simp only [Rep] at h;rw [h.2] at hb;cases hb
  | .bl _,v,fp,h,b,hb=>by simp only [Rep] at h;rw [h.2] at hb;cases hb
  | .int _,v,fp,h,b,hb=>by simp only [Rep] at h;rw [h.2] at hb;cases hb
  | .str _,v,fp,h,b,hb=>by simp only [Rep] at h;rw [h.2] at hb;cases hb
  | .tup ds,v,fp,h,b,hb=>by
    simp only [Rep] at h
    obtain⟨a,vs,e,hs,hr⟩:=h
    exact Reps.kind ds vs fp hr b hb
  | .lst ds,v,fp,h,b,hb=>by
    simp only [Rep] at h
    obtain⟨a,vs,fp',e,hr,hs⟩:=h
    rcases hs with ⟨rfl,hs⟩ | ⟨_,rfl,hs⟩
    . rcases List.mem_cons.mp hb with z | z
      . exact⟨fun xs q=>(by rw [z,hs] at q;cases q),fun o u q=>(by rw [z,hs] at q;cases q)⟩
      . exact Reps.kind ds vs fp' hr b z
    . exact Reps.kind ds vs fp hr b hb
  | .obj C ns ds,v,fp,h,b,hb=>by
    simp only [Rep] at h
    obtain⟨a,dx,vs,fp',e,rfl,hs,hl,hr⟩:=h
    rcases List.mem_cons.mp hb with z | z
    . exact⟨fun xs q=>(by rw [z,hs] at q;cases q),fun o u q=>(by rw [z,hs] at q;cases q)⟩
    . exact Reps.kind ds vs fp' hr b z
  | .dk ks ds,v,fp,h,b,hb=>by
    simp only [Rep] at h
    obtain⟨a,vs,fp',e,rfl,hs,hl,hr⟩:=h
    rcases List.mem_cons.mp hb with z | z
    . exact⟨fun xs q=>(by rw [z,hs] at q;cases q),fun o u q=>(by rw [z,hs] at q;cases q)⟩
    . exact Reps.kind ds vs fp' hr b z
  | .dt ks ds,v,fp,h,b,hb=>by
    simp only [Rep] at h
    obtain⟨a,es,ep,vs,fp',e,hk,hv,ht,hr,hs⟩:=h
    rcases hs with ⟨rfl,hs⟩ | ⟨_,rfl,o,hs⟩
    . rcases List.mem_cons.mp hb with z | z
      . exact⟨fun xs q=>(by rw [z,hs] at q;cases q),fun o u q=>(by rw [z,hs] at q;cases q)⟩
      . exact Reps.kind ds vs fp' hr b z
    . exact Reps.kind ds vs fp hr b hb
  | .exc C,v,fp,h,b,hb=>by
    simp only [Rep] at h
    obtain⟨a,e,rfl,hs⟩:=h
    rw [List.mem_singleton.mp hb]
    exact⟨fun xs q=>(by rw [hs] at q;cases q),fun o u q=>(by rw [hs] at q;cases q)⟩
theorem Reps.kind {K:Frag}{st:Bool}{H:Hp}:∀ (ds:List D) (vs:List V) (fp:List Addr),Reps K st H ds vs fp->∀ b ∈ fp,(∀ xs,H b ≠ some (.tup xs)) /\ ∀ o u,H b ≠ some (.frz o u)
  | [],vs,fp,h,b,hb=>by simp only [Reps] at h;rw [h.2] at hb;cases hb
  | d :: ds,vs,fp,h,b,hb=>by
    simp only [Reps] at h
    obtain⟨v,r,f1,f2,e1,rfl,h1,h2⟩:=h
    rcases List.mem_append.mp hb with z | z
    . exact Rep.kind d v f1 h1 b z
    . exact Reps.kind ds r f2 h2 b z
end
theorem SInv.lower {K:Frag}{P P' H:Hp}{σ:L2.St}{env:En}(s:Same P P') (h:SInv K P' H σ env):SInv K P H σ env :=
  ⟨s.trans h.same,h.len,let ⟨F,hF⟩:=h.ex;⟨F,hF.ok,fun i d e=>let ⟨a,b,c,q⟩:=hF.own i d e;⟨a,fun x hx=>s.free (b x hx),c,q⟩⟩⟩
theorem Q8 {K:Frag}{P H:Hp}{σ:L2.St}{env:En}{F:Nat->List Addr}{d:D}{v:V}{fp:List Addr}(i:Nat) (hl:σ.length=env.length) (h:EnvS K P H σ env F) (r:Rep K false H d v fp)
    (fr:∀ j d',env[j]? = some (some (true,d'))->∀ b ∈ F j,b ∉ fp):EnvS K P H (σ.set i (some v)) (env.set i (some (false,d))) (J3 F i fp):=by
  refine⟨?_,?_⟩
  . intro j o d' e
    by_cases hi:i < env.length
    . rw [cQ hi] at e
      by_cases hj:j=i
      . subst hj
        rw [if_pos rfl] at e
        cases e
        exact⟨v,List.getElem?_set_self (by omega),by rw [bN];exact r⟩
      . rw [if_neg hj] at e
        obtain⟨w,h1,h2⟩:=h.ok j o d' e
        exact⟨w,by rw [List.getElem?_set_ne (Ne.symm hj)];exact h1,by rw [bA hj];exact h2⟩
    . rw [List.set_eq_of_length_le (by omega)] at e
      have hj:j ≠ i:=fun z=>by rw [z,List.getElem?_eq_none (by omega)] at e;cases e
      obtain⟨w,h1,h2⟩:=h.ok j o d' e
      exact⟨w,by rw [List.getElem?_set_ne (Ne.symm hj)];exact h1,by rw [bA hj];exact h2⟩
  . intro j d' e
    have hji:j ≠ i:=by
      rintro rfl
      by_cases hi:j < env.length
      . rw [cQ hi,if_pos rfl] at e;cases e
      . rw [List.set_eq_of_length_le (by omega),List.getElem?_eq_none (by omega)] at e;cases e
    rw [List.getElem?_set_ne (Ne.symm hji)] at e
    obtain⟨a1,a2,a3,a4⟩:=h.own j d' e
    refine⟨by rw [bA hji];exact a1,fun b hb=>a2 b (by rw [bA hji] at hb;exact hb),fun w hw=>?_,fun k s' hk ek b hb=>?_⟩
    . rw [List.getElem?_set_ne (Ne.symm hji)] at hw
      rw [bA hji];exact a3 w hw
    . rw [bA hji] at hb
      by_cases hki:k=i
      . subst hki
        rw [bN]
        exact fr j d' e b hb
      . rw [List.getElem?_set_ne (Ne.symm hki)] at ek
        rw [bA hki]
        exact a4 k s' hk ek b hb
noncomputable def tDG (K:Frag) (t:D->En->Option En):TG:=fun v σ H Q=>∃ P env F d fp env',Same P H /\ σ.length=env.length /\ EnvS K P H σ env F /\ Rep K false H d v fp /\ (∀ j d',env[j]? = some (some (true,d'))->∀ b ∈ F j,b ∉ fp) /\ t d env=some env' /\
  ∀ σ',SInv K P H σ' env'->Q σ' H
noncomputable def QG (X:Cx) (tg:Expr) (t:D->En->Option En):Prop:=PG X tg (tDG X.K t)
theorem QG.mk {X:Cx}{tg:Expr}{t:D->En->Option En}{g:TG}(h:PG X tg g) (hi:∀ v σ H Q,tDG X.K t v σ H Q->g v σ H Q):QG X tg t:=fun pins s σ H v u Q I r q=>h pins s σ H v u Q I r (hi v σ H Q q)
noncomputable def gtN (i:Nat):D->En->Option En:=fun d env=>some (env.set i (some (false,d)))
noncomputable def iZ:List Nat->List D->En->Option En
  | [],[],env=>some env
  | i :: is,d :: ds,env=>iZ is ds (env.set i (some (false,d)))
  | _,_,_=>none
noncomputable def gtT (is:List Nat):D->En->Option En:=fun d env=>match d with
  | .tup ds=>iZ is ds env
  | _=>none
noncomputable def xF:List Nat->TGs
  | []=>Z5k
  | i :: is=>Z3o (tM i) (xF is)
theorem sE:∀ {is:List Nat}{ds:List D}{env env':En},iZ is ds env=some env'->is.length=ds.length
  | [],[],_,_,_=>rfl
  | i :: is,d :: ds,env,env',h=>by simp only [iZ] at h;simp [sE h]
  | [],_ :: _,_,_,h=>by simp [iZ] at h
  | _ :: _,[],_,_,h=>by simp [iZ] at h
theorem sU {K:Frag}{P H:Hp}{Q:L2.St->Hp->Prop}:∀ {is:List Nat}{ds:List D}{vs:List V}{fp:List Addr}{σ:L2.St}{env env':En}{F:Nat->List Addr},Same P H->σ.length=env.length->EnvS K P H σ env F->Reps K false H ds vs fp ->
    (∀ j d',env[j]? = some (some (true,d'))->∀ b ∈ F j,b ∉ fp)->iZ is ds env=some env'->(∀ σ',SInv K P H σ' env'->Q σ' H)->xF is vs σ H Q
  | [],[],vs,fp,σ,env,env',F,sm,hl,h,r,fr,e,q=>by
    simp only [Reps] at r
    simp only [iZ] at e
    cases e
    exact⟨r.1,q σ ⟨sm,hl,F,h⟩⟩
  | i :: is,d :: ds,vs,fp,σ,env,env',F,sm,hl,h,r,fr,e,q=>by
    simp only [Reps] at r
    obtain⟨v,us,f1,f2,rfl,rfl,r1,r2⟩:=r
    simp only [iZ] at e
    refine⟨v,us,rfl,?_⟩
    have h':=Q8 i hl h r1 fun j d' ej b hb z=>fr j d' ej b hb (List.mem_append_left _ z)
    refine sU (is:=is) (ds:=ds) sm (by simp [hl]) h' r2 (fun j d' ej b hb z=>?_) e q
    have hji:j ≠ i:=by
      rintro rfl
      by_cases hi:j < env.length
      . rw [cQ hi,if_pos rfl] at ej;cases ej
      . rw [List.set_eq_of_length_le (by omega),List.getElem?_eq_none (by omega)] at ej;cases ej
    rw [List.getElem?_set_ne (Ne.symm hji)] at ej
    rw [bA hji] at hb
    exact fr j d' ej b hb (List.mem_append_right _ z)
  | [],_ :: _,_,_,_,_,_,_,_,_,_,_,_,h,_=>by simp [iZ] at h
  | _ :: _,[],_,_,_,_,_,_,_,_,_,_,_,h,_=>by simp [iZ] at h
section
variable {X:Cx}{m m' m1 m2:Bool}{rs rs' rs1 rs2:List Nat}{e a b c iter tg:Expr}{es rest:List Expr}{f fa fb fc:En->Option D}{c':En->Option Bool}{pos p pos':Pos}{st:Stmt}{sts body:List Stmt}{g h:En->Res}{i:Nat}{x:Str}{src:En->Option (List D)}{t:D->En->Option En}
theorem bX (hN:X.N.Nodup) (hi:X.N[i]? = some x) (hx:Loc X.env.scope x) (hf:X.fn x=true \/ X.env.scope.names.lookup x=some .local:=by first | exact .inl rfl | exact .inr rfl | assumption):QG X (.Name x pos) (gtN i) :=
  .mk (fN hN hi hx hf) fun v σ H Q ⟨P,env,F,d,fp,env',sm,hl,hF,r,fr,e,q⟩=>by
    cases e
    exact q _ (yG i sm hl hF (Same.refl H) r fr)
theorem C5 {k:Nat}{is:List Nat}{n:Nat}(hc:X.calm=true) (h:PGs X es (xF is)) (hnl:is.length=n) (hn:(assignEach es X.env).length=n:=by rfl) (hst:(assignEach es X.env).findIdx? (·.1)=none:=by rfl):QG X (.Tuple es k pos) (gtT is) :=
  .mk (Z0D hc h hn hst) fun v σ H Q ⟨P,env,F,d,fp,env',sm,hl,hF,r,fr,e,q⟩=>by
    cases d with
    | tup ds =>
      simp only [Rep] at r
      obtain⟨a,vs,rfl,hsq,hr⟩:=r
      have e':iZ is ds env=some env':=e
      exact⟨a,vs,rfl,hsq,by rw [hr.length,<- sE e',hnl],sU sm hl hF hr fr e' q⟩
    | _=>cases e
noncomputable def Z0e (rs:List Nat) (t:D->En->Option En) (f:En->Option D):En->Res:=fun env=>match f env with
  | some d=>match t d (fz rs env) with
    | some env'=>.next env'
    | none=>.bad
  | none=>.bad
theorem Z3I (he:QE X m rs e f) (hg:QG X tg t) (hs:swapsWithSole [tg] e pos.line X.env=pure false:=by rfl) (hw:swappedStores [tg] e X.env=pure none:=by rfl)
    (hps:PS X (.Assign [tg] e pos) (Q7 (tD X.K m rs f) (tDG X.K t))):QS X (.Assign [tg] e pos) (Z0e rs t f):=.mk hps fun E σ H ⟨P,env,I,q⟩=>by
  obtain⟨F,hF⟩:=I.ex
  unfold Z0e at q
  split at q
  . rename_i d h1
    split at q
    . rename_i env' h2
      refine⟨env,nrm env F,d,hF.nrm.ok,h1,fun v H' fp s r c=>⟨P,fz rs env,nrm env F,d,fp,env',I.same.trans s,by rw [xG];exact I.len,(hF.nrm.fz rs).grow s,Rep.weak _ _ _ r,sD hF c,h2,fun σ' I'=>q σ' H' I'⟩⟩
    . exact q.elim
  . exact q.elim
noncomputable def nD (t:D->En->Option En) (g:En->Res):List D->En->Res
  | [],env=>.next env
  | d :: r,env=>match t d env with
    | none=>.bad
    | some env1=>match g env1 with
      | .next e=>nD t g r e
      | .cont e=>nD t g r e
      | .brk e=>.next e
      | .ret d=>.ret d
      | .bad=>.bad
noncomputable def dR (rs:List Nat) (src:En->Option (List D)) (t:D->En->Option En) (g:En->Res):En->Res:=fun env=>match src env with
  | some ds=>nD t g ds (fz rs env)
  | none=>.bad
open Classical in
theorem cL (hc:X.calm=true) (hp:PassesOwn (model X.prog X.w) X.A X.env X.xe) (hi:QI X tg rs iter src) (hg:QG X tg t) (hb:QSs X body g) (hs:∀ x,foldedSetIterable iter X.env x=pure x:=by intro _;rfl) :
    QS X (.For tg iter body [] pos) (dR rs src t g):=.mk (Z3Q hp hc hi hg hb hs) fun E σ H ⟨P,env,I,q⟩=>by
  obtain⟨F,hF⟩:=I.ex
  unfold dR at q
  split at q
  . rename_i ds h1
    refine⟨env,nrm env F,ds,hF.nrm.ok,h1,fun J H1 fp s1 gv dm cd=>?_⟩
    have ap:=sD hF cd
    let O:Addr->Prop:=fun b=>∃ j d,(fz rs env)[j]? = some (some (true,d)) /\ b ∈ nrm env F j
    let P':Hp:=fun b=>if O b then none else H1 b
    have hS0:EnvS X.K P H1 σ (fz rs env) (nrm env F):=(hF.nrm.fz rs).grow s1
    have okind:∀ b,O b->(∀ xs,H1 b ≠ some (.tup xs)) /\ ∀ o u,H1 b ≠ some (.frz o u):=fun b ⟨j,d,e,hb⟩=>by
      obtain⟨v,hv,r⟩:=hS0.ok j true d e
      exact Rep.kind _ _ _ r b hb
    have pn:∀ {b:Addr},¬ O b->P' b=H1 b:=fun hn=>if_neg hn
    have po:∀ {b:Addr},O b->P' b=none:=fun hO=>if_pos hO
    have sP1:Same P' H1:=fun b o e=>by
      by_cases hO:O b
      . rw [po hO] at e;cases e
      . rw [pn hO] at e;exact e
    have sP:Same P P':=fun b o e=>by
      have hO:¬ O b:=fun⟨j,d,ej,hb⟩=>by
        have:=(hS0.own j d ej).2.1 b hb
        rw [this] at e;cases e
      rw [pn hO];exact s1 _ _ (I.same _ _ e)
    have fpP:∀ b ∈ fp,¬ O b:=fun b hb ⟨j,d,ej,hb'⟩=>ap j d ej b hb' hb
    have kp:∀ {H2:Hp},Same P' H2->Kp fp H1 H2:=fun s2=>⟨fun b hb o e=>s2 _ _ (by rw [pn (fpP b hb)];exact e),
      fun b xs e=>s2 _ _ (by rw [pn (fun hO=>(okind b hO).1 _ e)];exact e),
      fun b o u e=>s2 _ _ (by rw [pn (fun hO=>(okind b hO).2 _ _ e)];exact e)⟩
    refine⟨fun i k σ' H'=>i <= ds.length /\ k=ds.length - i /\ ∃ env',SInv X.K P' H' σ' env' /\ Z4o X.K P E (nD t g (ds.drop i) env'),
      ⟨ds.length,Nat.zero_le _,rfl,fz rs env,⟨sP1,by rw [xG];exact I.len,nrm env F,hS0.ok,fun j d e=>?_⟩,by simpa using q⟩,?_⟩
    . obtain⟨a1,a2,a3,a4⟩:=hS0.own j d e
      exact⟨a1,fun b hb=>po ⟨j,d,e,hb⟩,a3,a4⟩
    . rintro i k σ' H' ⟨hi,hk,env',I',q'⟩
      have gi:=gv H' (kp I'.same) i
      by_cases hlt:i < ds.length
      . right
        have hd:ds[i]? = some ds[i]:=List.getElem?_eq_getElem hlt
        obtain⟨go,hy⟩:=gi.1 _ hd
        have edrop:ds.drop i=ds[i] :: ds.drop (i + 1):=List.drop_eq_getElem_cons hlt
        rw [edrop] at q'
        refine⟨go,fun σ2 H2=>∃ env2,SInv X.K P' H2 σ2 env2 /\ Z4o X.K P E (nD t g (ds.drop (i + 1)) env2),fun σ2 H2 ⟨env2,I2,q2⟩=>⟨ds.length - (i + 1),by omega,hlt,rfl,env2,I2,q2⟩,fun x H2 y2=>?_⟩
        obtain⟨sm2,f2,r2,sub2⟩:=hy x H2 y2
        unfold nD at q'
        cases ht:t ds[i] env' with
        | none=>rw [ht] at q';exact q'.elim
        | some env1 =>
          rw [ht] at q'
          simp only at q'
          have I2:=I'.grow sm2
          obtain⟨F2,hF2⟩:=I2.ex
          refine⟨P',env',F2,_,f2,env1,I2.same,I2.len,hF2,r2,fun j d' ej b hb z=>?_,ht,fun σ3 I3=>⟨P',env1,I3,?_⟩⟩
          . have h5:=(hF2.own j d' ej).2.1 b hb
            rw [pn (fpP b (sub2 b z))] at h5
            obtain⟨o,ho⟩:=dm b (sub2 b z)
            rw [h5] at ho;cases ho
          . cases hg:g env1 with
            | next e2=>rw [hg] at q';exact fun σ4 H4 I4=>⟨e2,I4,q'⟩
            | cont e2=>rw [hg] at q';exact fun σ4 H4 I4=>⟨e2,I4,q'⟩
            | brk e2=>rw [hg] at q';exact fun σ4 H4 I4=>q' σ4 H4 (I4.lower sP)
            | ret d=>rw [hg] at q';exact fun v H4 fp4 s4 r4 n4 nd4=>q' v H4 fp4 (sP.trans s4) r4 (fun b hb=>sP.free (n4 b hb)) nd4
            | bad=>rw [hg] at q';exact q'.elim
      . left
        have hi':i=ds.length:=by omega
        rw [hi',List.drop_length] at q'
        exact⟨gi.2 (by omega),q' σ' H' (I'.lower sP)⟩
  . exact q.elim
end
noncomputable def enStart (L:Nat) (ds:List D):En:=ds.map (fun d=>some (false,d)) ++ List.replicate (L - ds.length) none
noncomputable def runF (L:Nat) (g:En->Res):List D->Option D:=fun ds=>match g (enStart L ds) with
  | .ret d=>some d
  | .next _=>some .non
  | _=>none
theorem wI {K:Frag}{H:Hp}{st:Bool}:∀ {ds:List D}{vs:List V}{fp:List Addr},Reps K st H ds vs fp->∃ F:Nat->List Addr,∀ i d,ds[i]? = some d->∃ v,vs[i]? = some v /\ Rep K st H d v (F i)
  | [],vs,fp,_=>⟨fun _=>[],fun i d e=>by simp at e⟩
  | d :: ds,vs,fp,r=>by
    simp only [Reps] at r
    obtain⟨v,us,f1,f2,rfl,rfl,r1,r2⟩:=r
    obtain⟨F,hF⟩:=wI r2
    refine⟨fun i=>match i with | 0=>f1 | i + 1=>F i,fun i d' e=>?_⟩
    cases i with
    | zero=>simp at e;subst e;exact⟨v,rfl,r1⟩
    | succ i =>
      obtain⟨w,h1,h2⟩:=hF i d' (by simpa using e)
      exact⟨w,by simpa using h1,h2⟩
theorem B8 {K:Frag}{H:Hp}{N:List Str}{ds:List D}{vs:List V}{fp:List Addr}(r:Reps K false H ds vs fp):SInv K H H (L2.start N vs) (enStart N.length ds):=by
  obtain⟨F,hF⟩:=wI r
  refine⟨Same.refl H,by simp [L2.start,enStart,r.length],F,fun i o d e=>?_,fun i d e=>?_⟩
  . unfold enStart at e
    by_cases hi:i < ds.length
    . rw [List.getElem?_append_left (by simpa using hi),List.getElem?_map] at e
      cases hd:ds[i]? with
      | none=>rw [hd] at e;cases e
      | some d' =>
        rw [hd] at e
        cases e
        obtain⟨v,h1,h2⟩:=hF i d hd
        refine⟨v,?_,h2⟩
        unfold L2.start
        rw [List.getElem?_append_left (by rw [List.length_map,r.length];exact hi),List.getElem?_map,h1]
        rfl
    . rw [List.getElem?_append_right (by simpa using hi),List.getElem?_replicate] at e
      split at e <;> cases e
  . unfold enStart at e
    by_cases hi:i < ds.length
    . rw [List.getElem?_append_left (by simpa using hi),List.getElem?_map] at e
      cases hd:ds[i]? with
      | none=>rw [hd] at e;cases e
      | some d'=>rw [hd] at e;cases e
    . rw [List.getElem?_append_right (by simpa using hi),List.getElem?_replicate] at e
      split at e <;> cases e
structure FunD (K:Frag) (x qual:Str) (st:Stmt) (f:Addr) (fd:FuncData):Prop where
  ex:∃ (oc:Value) (od:Option Addr) (dV kV doc pm:Value) (an:Option Addr) (cdv ct:Value) (osl:Array (Option Value)),
    fd=fnOf x qual (aK st) (aI st) (aE st) dV kV doc pm an cdv ct /\ K.lookup f=some ⟨oc,od,.func fd,osl⟩ /\ codeIn K cdv qual=true
  kp:keepIn K (.ref f)=true
theorem bC {K:Frag}{x qual:Str}{st:Stmt}{f:Addr}{oc:Value}{od an:Option Addr}{osl:Array (Option Value)}{dV kV doc pm cdv ct:Value}(l:K.lookup f=some ⟨oc,od,.func (fnOf x qual (aK st) (aI st) (aE st) dV kV doc pm an cdv ct),osl⟩)
    (c:codeIn K cdv qual=true) (k:keepIn K (.ref f)=true):FunD K x qual st f (fnOf x qual (aK st) (aI st) (aE st) dV kV doc pm an cdv ct) :=
  ⟨⟨oc,od,dV,kV,doc,pm,an,cdv,ct,osl,rfl,l,c⟩,k⟩
theorem FunD.ok {P:Program}{w:World}{K:Frag}{mg:Str->Option Value}{base:Heap}{x qual:Str}{st:Stmt}{f:Addr}{fd:FuncData}{N ps:List Str}{k n L:Nat}{g:En->Res}(F:FunD K x qual st f fd) (S:aS N ps (aE st)) (hn:ps.length=n) (hL:N.length=L)
    (hb:∀ (cdv:Value) (A:Around) (outer:List Env) (s:Shared) (H:Hp) (E:XK),Room k (A.deeper (envOfC qual (aE st) s.heap.objs.size f cdv))->QSs (zT CX0 P w K mg base N qual (aE st) f cdv A outer s H E).nox (aI st) g) :
    FnOk P w K mg base CX0 (k + 1) f fd ps (spD K n (runF L g)):=by
  subst hn hL
  obtain⟨oc,od,dV,kV,doc,pm,an,cdv,ct,osl,rfl,lk,hcd⟩:=F.ex
  refine Z1n lk hcd S (fun vs H Q E h=>Z1X h) fun A outer s H vs Q E hr hsp=>?_
  obtain⟨ds,d,fp,h1,h2,h3,q⟩:=hsp
  have hq:=hb cdv A outer s H E hr
  refine⟨_,PSs.nox hq,H,enStart N.length ds,B8 h2,?_⟩
  unfold runF at h3
  cases hg:g (enStart N.length ds) with
  | ret d' =>
    rw [hg] at h3
    cases h3
    exact fun v H' fp' s r fr nd=>q v H' fp' s r fr nd
  | next env' =>
    rw [hg] at h3
    cases h3
    exact fun σ' H' I'=>q .non H' [] I'.same wW (fun b hb=>(by cases hb)) List.nodup_nil
  | brk _=>rw [hg] at h3;cases h3
  | cont _=>rw [hg] at h3;cases h3
  | bad=>rw [hg] at h3;cases h3
open PySem PySem.Spec PyProof.Rows L2 PySem.SeqAt
noncomputable def eqL (f:D->D->Option Bool):List D->List D->Option Bool
  | x :: xs,y :: ys=>match f x y,eqL f xs ys with
    | some a,some b=>some (a && b)
    | _,_=>none
  | _,_=>some true
noncomputable def eqN:Nat->D->D->Option Bool
  | 0,_,_=>none
  | _ + 1,.non,.non=>some true
  | _ + 1,.bl a,.bl b=>some (a == b)
  | _ + 1,.int a,.int b=>some (a == b)
  | _ + 1,.str a,.str b=>some (a == b)
  | _ + 1,.non,.int _=>some false
  | _ + 1,.non,.str _=>some false
  | _ + 1,.int _,.non=>some false
  | _ + 1,.str _,.non=>some false
  | _ + 1,.int _,.str _=>some false
  | _ + 1,.str _,.int _=>some false
  | n + 1,.tup xs,.tup ys=>(eqL (eqN n) xs ys).map (· && xs.length == ys.length)
  | _ + 1,.tup _,.non=>some false
  | _ + 1,.non,.tup _=>some false
  | n + 1,.lst xs,.lst ys=>if xs.length=ys.length then eqL (eqN n) xs ys else some false
  | _ + 1,.lst _,.non=>some false
  | _ + 1,.non,.lst _=>some false
  | _,_,_=>none
theorem tN {f:D->D->Option Bool}:∀ {xs ys:List D}{k:Bool},eqL f xs ys=some k->∃ e:Nat->Bool,(∀ j x y,xs[j]? = some x->ys[j]? = some y->f x y=some (e j)) /\ (List.range (min xs.length ys.length)).all e=k
  | [],ys,k,h=>by simp only [eqL] at h;cases h;exact⟨fun _=>true,fun j x y h=>by simp at h,by simp⟩
  | x :: xs,[],k,h=>by simp only [eqL] at h;cases h;exact⟨fun _=>true,fun j x y _ h=>by simp at h,by simp⟩
  | x :: xs,y :: ys,k,h=>by
    simp only [eqL] at h
    split at h
    . rename_i a b h1 h2
      cases h
      obtain⟨e,g1,g2⟩:=tN h2
      refine⟨fun j=>match j with | 0=>a | j + 1=>e j,fun j x' y' e1 e2=>?_,?_⟩
      . cases j with
        | zero=>simp at e1 e2;subst e1 e2;exact h1
        | succ j=>exact g1 j x' y' (by simpa using e1) (by simpa using e2)
      . simp only [List.length_cons,Nat.succ_min_succ,List.range_succ_eq_map,List.all_cons,List.all_map]
        rw [<- g2]
        congr 1
    . cases h
section
variable {X:Cx}{pins:List (Addr × Obj)}{σ:L2.St}{H:Hp}{s:Shared}
theorem L4 {st1 st2:Bool}(I:Inv X pins σ H s):∀ (n:Nat) (a b:D) (v:V) (f1 f2:List Addr) (k:Bool),Rep X.K st1 H a v f1->Rep X.K st2 H b v f2->eqN n a b=some k->k=true:=by
  intro n
  induction n with
  | zero=>intro a b v f1 f2 k _ _ e;simp [eqN] at e
  | succ n ih =>
    have seq:∀ (xs ys:List D) (vs:List V) (f1 f2:List Addr) (k:Bool),Reps X.K st1 H xs vs f1->Reps X.K st2 H ys vs f2->eqL (eqN n) xs ys=some k->k=true:=by
      intro xs
      induction xs with
      | nil=>intro ys vs f1 f2 k _ _ e;simp only [eqL] at e;cases e;rfl
      | cons x xs ihx =>
        intro ys vs f1 f2 k r1 r2 e
        cases ys with
        | nil=>simp only [eqL] at e;cases e;rfl
        | cons y ys =>
          simp only [Reps] at r1 r2
          obtain⟨v,us,g1,g2,rfl,_,a1,a2⟩:=r1
          obtain⟨v',us',g3,g4,e',_,b1,b2⟩:=r2
          cases e'
          simp only [eqL] at e
          split at e
          . rename_i c d h1 h2
            cases e
            rw [ih _ _ _ _ _ _ a1 b1 h1,ihx _ _ _ _ _ a2 b2 h2]
            rfl
          . cases e
    intro a b v f1 f2 k ra rb e
    cases a <;> cases b <;> simp only [eqN,Rep] at ra rb e <;> try (cases e;done)
    all_goals first
      | (cases e;rfl)
      | (obtain⟨rfl,_⟩:=ra;obtain⟨h,_⟩:=rb;cases h;cases e;simp;done)
      | (obtain⟨rfl,_⟩:=ra;obtain⟨h,_⟩:=rb;cases h;done)
      | (obtain⟨rfl,_⟩:=ra;obtain⟨_,_,h,_⟩:=rb;cases h;done)
      | (obtain⟨rfl,_⟩:=ra;obtain⟨_,_,_,h,_⟩:=rb;cases h;done)
      | (obtain⟨rfl,_⟩:=rb;obtain⟨_,_,h,_⟩:=ra;cases h;done)
      | (obtain⟨rfl,_⟩:=rb;obtain⟨_,_,_,h,_⟩:=ra;cases h;done)
      | skip
    . -- tuples
      rename_i xs ys
      obtain⟨a,vs,rfl,hs,hr⟩:=ra
      obtain⟨a',vs',e',hs',hr'⟩:=rb
      cases e'
      obtain rfl:=I.tuple_inj hs hs'
      cases hq:eqL (eqN n) xs ys with
      | none=>rw [hq] at e;cases e
      | some c =>
        rw [hq] at e
        cases e
        have:=seq _ _ _ _ _ _ hr hr' hq
        subst this
        have l1:=hr.length
        have l2:=hr'.length
        simp [<- l1,<- l2]
    . rename_i xs ys
      have hra:Rep X.K st1 H (.lst xs) v f1:=by simp only [Rep];exact ra
      have hrb:Rep X.K st2 H (.lst ys) v f2:=by simp only [Rep];exact rb
      obtain⟨a,vs,fp',rfl,hs,hr,_⟩:=bW hra
      obtain⟨a',vs',fp2,e',hs',hr',_⟩:=bW hrb
      cases e'
      obtain rfl:=I.list_inj hs hs'
      have l1:=hr.length
      have l2:=hr'.length
      rw [if_pos (by rw [<- l1,<- l2])] at e
      exact seq _ _ _ _ _ _ hr hr' e
end
section
variable {X:Cx}{pins:List (Addr × Obj)}{σ:L2.St}{H:Hp}{s:Shared}
theorem qF (A:Around):A.in1.units=A.units + 1:=rfl
theorem Z1s {st1 st2:Bool}(I:Inv X pins σ H s):∀ (n:Nat) (A:Around) (a b:D) (v u:V) (vv uu:Value) (f1 f2:List Addr) (k:Bool),A.units + n <= cLine->Rep X.K st1 H a v f1->Rep X.K st2 H b u f2->RelV v vv->RelV u uu->eqN n a b=some k ->
    EqAt A s vv uu k /\ RcAt A s vv uu k /\ RcNeAt A s vv uu (!k):=by
  intro n
  induction n with
  | zero=>intro A a b v u vv uu f1 f2 k _ _ _ _ _ e;simp [eqN] at e
  | succ n ih =>
    intro A a b v u vv uu f1 f2 k hu ra rb rv ru e
    have hu0:A.units < cLine:=by omega
    have seqs:∀ {xs ys:List D}{vs us:List V}{its its2:List Value}{g1 g2:List Addr}{ee:Nat->Bool},Reps X.K st1 H xs vs g1->Reps X.K st2 H ys us g2->Vals vs its->Vals us its2->(∀ j x y,xs[j]? = some x->ys[j]? = some y->eqN n x y=some (ee j)) ->
        ∀ j (h1:j < its.toArray.size) (h2:j < its2.toArray.size),EqAt A.in1 s its.toArray[j] its2.toArray[j] (ee j):=by
      intro xs ys vs us its its2 g1 g2 ee r1 r2 w1 w2 he j h1 h2
      have l1:=r1.length
      have l2:=r2.length
      have l3:=w1.length
      have l4:=w2.length
      have j1:j < xs.length:=by simp at h1;omega
      have j2:j < ys.length:=by simp at h2;omega
      obtain⟨v1,_,a1,a2,_⟩:=r1.get (List.getElem?_eq_getElem j1)
      obtain⟨v2,_,b1,b2,_⟩:=r2.get (List.getElem?_eq_getElem j2)
      obtain⟨u1,c1,c2⟩:=w1.get a1
      obtain⟨u2,d1,d2⟩:=w2.get b1
      have e1:its.toArray[j]=u1:=by have:=List.getElem?_eq_some_iff.mp c1;obtain⟨_,z⟩:=this;simpa using z
      have e2:its2.toArray[j]=u2:=by have:=List.getElem?_eq_some_iff.mp d1;obtain⟨_,z⟩:=this;simpa using z
      rw [e1,e2]
      exact (ih A.in1 _ _ _ _ _ _ _ _ _ (by rw [qF];omega) a2 b2 c2 d2 (he j _ _ (List.getElem?_eq_getElem j1) (List.getElem?_eq_getElem j2))).1
    cases a with
    | non =>
      have hv:v=.non:=gP ra
      subst hv
      cases (show vv=Value.none from rv)
      cases b with
      | non =>
        cases gP rb
        cases (show uu=Value.none from ru)
        simp only [eqN] at e;cases e
        exact⟨EqAt.same _,RcAt.none_none,RcNeAt.none_none⟩
      | int i =>
        cases bH rb
        obtain⟨t,rfl⟩:=(show ∃ t,uu=Value.int i t from ru)
        simp only [eqN] at e;cases e
        exact⟨EqAt.none_int _ _,RcAt.none_int _ _,RcNeAt.none_int _ _⟩
      | str i =>
        cases gE rb
        obtain⟨t,rfl⟩:=(show ∃ t,uu=Value.str i t from ru)
        simp only [eqN] at e;cases e
        exact⟨EqAt.none_str _ _,RcAt.none_str _ _,RcNeAt.none_str _ _⟩
      | tup ys =>
        simp only [Rep] at rb
        obtain⟨p,us,rfl,hs,hr⟩:=rb
        cases (show uu=Value.ref p from ru)
        obtain⟨its,w1,pl,_⟩:=I.tuple hs
        simp only [eqN] at e;cases e
        exact⟨EqAt.none_tuple pl hu0,RcAt.none_tuple pl hu0,RcNeAt.none_tuple pl hu0⟩
      | lst ys =>
        obtain⟨p,us,_,rfl,hs,hr,_⟩:=bW rb
        cases (show uu=Value.ref p from ru)
        obtain⟨its,w1,pl,_⟩:=I.list hs
        simp only [eqN] at e;cases e
        exact⟨EqAt.none_list pl.isList hu0,RcAt.none_list pl.isList hu0,RcNeAt.none_list pl.isList hu0⟩
      | _=>simp only [eqN] at e;cases e
    | bl x =>
      cases iG ra
      cases (show vv=Value.bool x from rv)
      cases b with
      | bl y =>
        cases iG rb
        cases (show uu=Value.bool y from ru)
        simp only [eqN] at e;cases e
        exact⟨EqAt.bool_bool _ _,RcAt.bool_bool _ _,RcNeAt.bool_bool _ _⟩
      | _=>simp only [eqN] at e;cases e
    | int x =>
      cases bH ra
      obtain⟨t,rfl⟩:=(show ∃ t,vv=Value.int x t from rv)
      cases b with
      | int y =>
        cases bH rb
        obtain⟨t',rfl⟩:=(show ∃ t,uu=Value.int y t from ru)
        simp only [eqN] at e;cases e
        exact⟨EqAt.int_int _ _ _ _,RcAt.int_int _ _ _ _,RcNeAt.int_int _ _ _ _⟩
      | non =>
        cases gP rb
        cases (show uu=Value.none from ru)
        simp only [eqN] at e;cases e
        exact⟨EqAt.int_none _ _,RcAt.int_none _ _,RcNeAt.int_none _ _⟩
      | str y =>
        cases gE rb
        obtain⟨t',rfl⟩:=(show ∃ t,uu=Value.str y t from ru)
        simp only [eqN] at e;cases e
        exact⟨EqAt.int_str _ _ _ _,RcAt.int_str _ _ _ _,RcNeAt.int_str _ _ _ _⟩
      | _=>simp only [eqN] at e;cases e
    | str x =>
      cases gE ra
      obtain⟨t,rfl⟩:=(show ∃ t,vv=Value.str x t from rv)
      cases b with
      | int y =>
        cases bH rb
        obtain⟨t',rfl⟩:=(show ∃ t,uu=Value.int y t from ru)
        simp only [eqN] at e;cases e
        exact⟨EqAt.str_int _ _ _ _,RcAt.str_int _ _ _ _,RcNeAt.str_int _ _ _ _⟩
      | non =>
        cases gP rb
        cases (show uu=Value.none from ru)
        simp only [eqN] at e;cases e
        exact⟨EqAt.str_none _ _,RcAt.str_none _ _,RcNeAt.str_none _ _⟩
      | str y =>
        cases gE rb
        obtain⟨t',rfl⟩:=(show ∃ t,uu=Value.str y t from ru)
        simp only [eqN] at e;cases e
        exact⟨EqAt.str_str _ _ _ _,RcAt.str_str _ _ _ _,RcNeAt.str_str _ _ _ _⟩
      | _=>simp only [eqN] at e;cases e
    | tup xs =>
      have ra':=ra
      simp only [Rep] at ra
      obtain⟨p,vs,rfl,hs,hr⟩:=ra
      cases (show vv=Value.ref p from rv)
      obtain⟨its,w1,pl,_⟩:=I.tuple hs
      cases b with
      | non =>
        cases gP rb
        cases (show uu=Value.none from ru)
        simp only [eqN] at e;cases e
        exact⟨EqAt.tuple_none pl hu0,RcAt.tuple_none pl hu0,RcNeAt.tuple_none pl hu0⟩
      | tup ys =>
        have rb':=rb
        simp only [Rep] at rb
        obtain⟨p',us,rfl,hs',hr'⟩:=rb
        cases (show uu=Value.ref p' from ru)
        obtain⟨its2,w2,pl2,_⟩:=I.tuple hs'
        have e0:=e
        simp only [eqN] at e
        cases hq:eqL (eqN n) xs ys with
        | none=>rw [hq] at e;cases e
        | some c =>
          rw [hq] at e
          cases e
          obtain⟨ee,g1,g2⟩:=tN hq
          have l1:=hr.length
          have l2:=hr'.length
          have l3:=w1.length
          have l4:=w2.length
          have es:(its.toArray.size == its2.toArray.size)=(xs.length == ys.length):=by simp [<- l1,<- l2,l3,l4]
          have em:min its.toArray.size its2.toArray.size=min xs.length ys.length:=by simp [<- l1,<- l2,l3,l4]
          have rc:=RcAt.tuples pl pl2 hu0 (seqs hr hr' w1 w2 g1)
          have rn:=RcNeAt.tuples pl pl2 hu0 (seqs hr hr' w1 w2 g1)
          rw [es,em,g2] at rc rn
          refine⟨?_,rc,rn⟩
          by_cases hp:p=p'
          . subst hp
            have:=L4 I _ _ _ _ _ _ _ ra' rb' e0
            rw [this]
            exact EqAt.same _
          . exact EqAt.of_refs hp rc
      | _=>simp only [eqN] at e;cases e
    | lst xs =>
      obtain⟨p,vs,_,rfl,hs,hr,_⟩:=bW ra
      cases (show vv=Value.ref p from rv)
      obtain⟨its,w1,pl,_⟩:=I.list hs
      cases b with
      | non =>
        cases gP rb
        cases (show uu=Value.none from ru)
        simp only [eqN] at e;cases e
        exact⟨EqAt.list_none pl.isList hu0,RcAt.list_none pl.isList hu0,RcNeAt.list_none pl.isList hu0⟩
      | lst ys =>
        obtain⟨p',us,_,rfl,hs',hr',_⟩:=bW rb
        cases (show uu=Value.ref p' from ru)
        obtain⟨its2,w2,pl2,_⟩:=I.list hs'
        have e0:=e
        simp only [eqN] at e
        have l1:=hr.length
        have l2:=hr'.length
        have l3:=w1.length
        have l4:=w2.length
        have key:RcAt A s (.ref p) (.ref p') k /\ RcNeAt A s (.ref p) (.ref p') (!k):=by
          by_cases hl:xs.length=ys.length
          . rw [if_pos hl] at e
            obtain⟨ee,g1,g2⟩:=tN e
            have hsz:its.toArray.size=its2.toArray.size:=by simp;omega
            have em:its.toArray.size=min xs.length ys.length:=by simp;omega
            have rc:=RcAt.lists pl.isList pl2.isList hsz hu0 (seqs hr hr' w1 w2 g1)
            have rn:=RcNeAt.lists pl.isList pl2.isList hsz hu0 (seqs hr hr' w1 w2 g1)
            rw [em,g2] at rc rn
            exact⟨rc,rn⟩
          . rw [if_neg hl] at e
            cases e
            have hsz:(its.toArray.size != its2.toArray.size)=true:=by simp;omega
            exact⟨RcAt.lists_lengths pl.isList pl2.isList hsz hu0,RcNeAt.lists_lengths pl.isList pl2.isList hsz hu0⟩
        refine⟨?_,key.1,key.2⟩
        by_cases hp:p=p'
        . subst hp
          have:=L4 I _ _ _ _ _ _ _ ra rb e0
          rw [this]
          exact EqAt.same _
        . exact EqAt.of_refs hp key.1
      | _=>simp only [eqN] at e;cases e
    | obj _ _ _=>simp only [eqN] at e;cases e
    | dk _ _=>simp only [eqN] at e;cases e
    | dt _ _=>simp only [eqN] at e;cases e
    | exc _=>simp only [eqN] at e;cases e
end
section
variable {X:Cx}{m m' m1 m2:Bool}{rs rs' rs1 rs2:List Nat}{e a b c:Expr}{fa fb:En->Option D}{pos:Pos}
noncomputable def fEq (fa fb:En->Option D):En->Option Bool:=fun env=>match fa env,fb env with
  | some x,some y=>eqN 8 x y
  | _,_=>none
noncomputable def Z4T (neg:Bool) (K:Frag):R2:=fun v u H Q=>∃ a b f1 f2 k st1 st2,Rep K st1 H a v f1 /\ Rep K st2 H b u f2 /\ eqN 8 a b=some k /\ Q (.bl (if neg then !k else k)) H
theorem Z0M (hu:X.A.units + 8 <= cLine):OpR X (compareOp .Eq) (Z4T false X.K):=fun pins s σ H x y v u Q I rx ry ⟨a,b,f1,f2,k,st1,st2,r1,r2,e,q⟩ =>
  (Z1s I 8 X.A a b x y v u f1 f2 k hu r1 r2 rx ry e).2.1 _ _ _ _ ⟨.bl k,H,I,rfl,q⟩
theorem Z0L (hu:X.A.units + 8 <= cLine):OpR X (compareOp .NotEq) (Z4T true X.K):=fun pins s σ H x y v u Q I rx ry ⟨a,b,f1,f2,k,st1,st2,r1,r2,e,q⟩ =>
  (Z1s I 8 X.A a b x y v u f1 f2 k hu r1 r2 rx ry e).2.2 _ _ _ _ ⟨.bl (!k),H,I,rfl,q⟩
theorem lM {env:En}{bb:Bool}(e:fEq fa fb env=some bb):∃ x y,fa env=some x /\ fb env=some y /\ eqN 8 x y=some bb:=by
  unfold fEq at e
  split at e
  . rename_i x y h1 h2;exact⟨x,y,h1,h2,e⟩
  . cases e
theorem dS (hu:X.A.units + 8 <= cLine) (ha:QE X m1 rs1 a fa) (hb:QE X m2 rs2 b fb):QT X (.Compare a [.Eq] [b] pos) (fEq fa fb) :=
  sJ (Z0M hu) ha hb (lZ _) (fun env x y K H v u f1 f2 Q bb e ea eb r1 r2 hK q=>by
    subst hK
    obtain⟨x',y',h1,h2,h3⟩:=lM e
    rw [ea] at h1;rw [eb] at h2;cases h1;cases h2
    exact⟨x,y,f1,f2,bb,_,_,r1,r2,h3,q⟩) fun env bb e=>let ⟨x,y,h1,h2,_⟩:=lM e;⟨x,y,h1,h2⟩
theorem Z3i (hu:X.A.units + 8 <= cLine) (ha:QE X m1 rs1 a fa) (hb:QE X m2 rs2 b fb):QT X (.Compare a [.NotEq] [b] pos) (mQ (fEq fa fb)) :=
  sJ (Z0L hu) ha hb (lZ _) (fun env x y K H v u f1 f2 Q bb e ea eb r1 r2 hK q=>by
    subst hK
    unfold mQ at e
    cases h:fEq fa fb env with
    | none=>rw [h] at e;cases e
    | some k =>
      rw [h] at e
      cases e
      obtain⟨x',y',h1,h2,h3⟩:=lM h
      rw [ea] at h1;rw [eb] at h2;cases h1;cases h2
      exact⟨x,y,f1,f2,k,_,_,r1,r2,h3,q⟩) fun env bb e=>by
    unfold mQ at e
    cases h:fEq fa fb env with
    | none=>rw [h] at e;cases e
    | some k=>obtain⟨x,y,h1,h2,_⟩:=lM h;exact⟨x,y,h1,h2⟩
theorem yP (hu:X.A.units + 8 <= cLine) (ha:QE X m1 rs1 a fa) (hb:QE X m2 rs2 b fb):QE X m rs (.Compare a [.Eq] [b] pos) (mP (fEq fa fb)) :=
  .mk (wP (Z0M hu) ha hb (lZ _)) fun σ H Q ⟨env,F,d,ok,e,q⟩=>by
    unfold mP at e
    cases h:fEq fa fb env with
    | none=>rw [h] at e;cases e
    | some k =>
      rw [h] at e
      cases e
      obtain⟨x,y,h1,h2,h3⟩:=lM h
      exact two ok h1 h2 fun v u H' f1 f2 s r1 r2 _ _=>⟨x,y,f1,f2,k,_,_,r1,r2,h3,q _ _ _ s sV .nil⟩
theorem Z4V (hu:X.A.units + 8 <= cLine) (ha:QE X m1 rs1 a fa) (hb:QE X m2 rs2 b fb):QE X m rs (.Compare a [.NotEq] [b] pos) (mP (mQ (fEq fa fb))) :=
  .mk (wP (Z0L hu) ha hb (lZ _)) fun σ H Q ⟨env,F,d,ok,e,q⟩=>by
    unfold mP mQ at e
    cases h:fEq fa fb env with
    | none=>rw [h] at e;cases e
    | some k =>
      rw [h] at e
      cases e
      obtain⟨x,y,h1,h2,h3⟩:=lM h
      exact two ok h1 h2 fun v u H' f1 f2 s r1 r2 _ _=>⟨x,y,f1,f2,k,_,_,r1,r2,h3,q _ _ _ s sV .nil⟩
end
section
variable {X:Cx}{m m' m1 m2:Bool}{rs rs' rs1 rs2:List Nat}{e a b c:Expr}{es:List Expr}{f fa fb:En->Option D}{fs:En->Option (List D)}{pos p p2:Pos}
theorem fF:OpR X (binaryOp .Mult) (rI IntMulOk fun i j=>.int (i * j)):=opI fun _ _ _ _ _ _ _ hc q=>PyProof.Rows.mul_int q hc
noncomputable def eR (i j:Int):Prop:=0 < j /\ j.natAbs.log2 < 9000
theorem fI:OpR X (binaryOp .FloorDiv) (rI eR fun i j=>.int (i / j)):=opI fun i j _ _ _ _ _ hc q=>by
  have h1:(0:Int) < j:=hc.1
  exact floordiv_int (by omega) (by rw [Int.fdiv_eq_ediv_of_nonneg i (by omega)];exact q) (.inl (PyProof.noPylong_of_log2 hc.2))
end
section
variable {X:Cx}{m m' m1 m2:Bool}{rs rs' rs1 rs2:List Nat}{e a b c:Expr}{es:List Expr}{f fa fb:En->Option D}{fs:En->Option (List D)}{pos p p2 pos':Pos}{i:Nat}{x nm:Str}{C:Addr}
end
noncomputable def spI (K:Frag) (C:Addr) (n:Nat) (f:List D->Option D):Sp:=fun vs H Q _=>∃ x dx H0 us ds d fp,vs=.ref x :: us /\ H0 x=none /\ H0 dx=none /\ dx ≠ x /\ H=upd (upd H0 dx (.own x)) x (.ins C dx []) /\ ds.length=n /\ Reps K false H0 ds us fp /\ f ds=some d /\
  ∀ H' fp',Same H0 H'->Rep K true H' d (.ref x) fp'->(∀ b ∈ fp',H0 b=none)->fp'.Nodup->Q .non H'
theorem Z1W {K:Frag}{C:Addr}{n:Nat}{f:List D->Option D}{vs:List V}{H:Hp}{Q:VK}{E:XK}(h:spI K C n f vs H Q E):vs.length=n + 1:=by
  obtain⟨x,dx,H0,us,ds,d,fp,rfl,_,_,_,_,h1,h2,_⟩:=h
  rw [List.length_cons,h2.length,h1]
section
variable {X:Cx}{m m' m1 m2:Bool}{rs rs' rs1 rs2:List Nat}{e a b c:Expr}{es:List Expr}{f fa fb:En->Option D}{fs:En->Option (List D)}{pos p p2 pos':Pos}{i:Nat}{x nm:Str}{C:Addr}
theorem Z2c {k n:Nat}{fA:Addr}{fd:FuncData}{ps:List Str}{F':List D->Option D}(M:Mk X.K C fA) (G:FnOk X.prog X.w X.K X.mg X.base CX0 k fA fd ps (spI X.K C n F')) (hr:Room (k + 1) X.A) (hg:Gl X x) (hm:X.mg x=some (.ref C)) (hb:Binds X.K fd ps []) (ha:QA X m1 rs1 (e :: es) fs) (hn:∀ env xs,fs env=some xs->xs.length=n)
    (hdb:(x == ("__debug__" : Str))=false:=by decide) (he:starEach (e :: es) X.env=(false,eval e X.env) :: starEach es X.env:=by rfl) (hpl:(backTo pos (starEach es X.env)).any (·.1)=false:=by rfl) :
    QE X true [] (.Call (.Name x p) (e :: es) [] pos) (fun env=>(fs env).bind F') :=
  .mk (L2.pe_make M G hr hg hm hb .nil Z3j ha hdb he hpl) fun σ H Q ⟨env,F,d,ok,e,q⟩=>by
    cases h1:fs env with
    | none=>simp only [h1] at e;cases e
    | some xs =>
      simp only [h1,Option.bind_some] at e
      refine⟨env,F,xs,ok,h1,fun vs H1 fp s r c x dx hx hdx hne=>⟨x,dx,H1,vs ++ [],xs,d,fp,rfl,hx,hdx,hne,rfl,hn env xs h1,by rw [List.append_nil];exact Reps.weak _ _ _ r,e,fun H' fp' s' r' fr nd=>⟨rfl,q _ H' fp' (s.trans s') r' ⟨fun b hb=>.inl (s.free (fr b hb)),fun _=>⟨nd,fun b hb=>s.free (fr b hb)⟩⟩⟩⟩⟩
end
theorem Z1 {K:Frag}{P H:Hp}{σ:L2.St}{env:En}{F:Nat->List Addr}{i:Nat}{d0 d':D}{a:Addr}{v:V}{o o':HO}(sm:Same P H) (hl:σ.length=env.length) (h:EnvS K P H σ env F) (ei:env[i]? = some (some (true,d0)))
    (hv:σ[i]? = some (some v)) (ha0:a ∈ F i) (ha:H a=some o) (hm:∀ xs,o ≠ .tup xs) (hf:∀ x u,o ≠ .frz x u) (new:∀ st,Rep K st (upd H a o') d' v (F i)):SInv K P (upd H a o') σ (env.set i (some (true,d'))):=by
  have hi:i < env.length:=(List.getElem?_eq_some_iff.mp ei).1
  obtain⟨o1,o2,o3,o4⟩:=h.own i _ ei
  have kp:∀ {fp:List Addr},a ∉ fp->Kp fp H (upd H a o'):=fun hn=>Kp.upd ha hm hf hn
  refine⟨fun b o e=>?_,by simp [hl],F,fun j o d e=>?_,fun j d e=>?_⟩
  . have:b ≠ a:=fun z=>by have:=o2 a ha0;rw [z,this] at e;cases e
    rw [aX this];exact sm _ _ e
  . rw [cQ hi] at e
    by_cases hj:j=i
    . subst hj
      rw [if_pos rfl] at e
      cases e
      exact⟨_,hv,new false⟩
    . rw [if_neg hj] at e
      obtain⟨w,h1,h2⟩:=h.ok j o d e
      exact⟨w,h1,Rep.keep _ _ _ (kp (o4 j _ hj e a ha0)) h2⟩
  . rw [cQ hi] at e
    by_cases hj:j=i
    . subst hj
      rw [if_pos rfl] at e
      cases e
      refine⟨o1,o2,fun w hw=>?_,fun k s hk ek b hb=>?_⟩
      . rw [hv] at hw
        cases hw
        exact new true
      . rw [cQ hi,if_neg hk] at ek
        exact o4 k s hk ek b hb
    . rw [if_neg hj] at e
      obtain⟨a1,a2,a3,a4⟩:=h.own j d e
      refine⟨a1,a2,fun w hw=>Rep.keep _ _ _ (kp (o4 j _ hj e a ha0)) (a3 w hw),fun k s hk ek b hb=>?_⟩
      rw [cQ hi] at ek
      by_cases hki:k=i
      . subst hki
        exact a4 k _ hk ei b hb
      . rw [if_neg hki] at ek
        exact a4 k s hk ek b hb
theorem Reps.modify {K:Frag}{H:Hp}:∀ {ds:List D}{vs:List V}{fp:List Addr}{k:Nat}{es:List D},Reps K true H ds vs fp->ds[k]? = some (.lst es)->flats es=true->∃ a us,vs[k]? = some (.ref a) /\ H a=some (.lst us) /\ Reps K true H es us [] /\ a ∈ fp /\
    (fp.Nodup->∀ us' es',Reps K true H es' us' []->Reps K true (upd H a (.lst us')) (ds.set k (.lst es')) vs fp)
  | [],vs,fp,k,es,r,e,hf=>by simp at e
  | d :: ds,vs,fp,0,es,r,e,hf=>by
    simp at e
    subst e
    simp only [Reps] at r
    obtain⟨v,us,f1,f2,rfl,rfl,r1,r2⟩:=r
    obtain⟨a,ws,g,rfl,rfl,ha,hr⟩:=mU r1
    obtain⟨e1,e2⟩:=Reps.flat _ _ _ hf hr
    subst e1
    refine⟨a,ws,rfl,ha,hr,by simp,fun nd us' es' r'=>?_⟩
    simp only [List.set_cons_zero,Reps]
    have na:a ∉ f2:=fun z=>by simp at nd;exact nd.1 z
    have kp:∀ {fp:List Addr},a ∉ fp->Kp fp H (upd H a (.lst us')):=fun hn=>Kp.upd ha (by intro xs z;cases z) (by intro x u z;cases z) hn
    refine⟨.ref a,us,[a],f2,rfl,rfl,?_,Reps.keep _ _ _ (kp na) r2⟩
    simp only [Rep]
    exact⟨a,us',[],rfl,Reps.keep _ _ _ (kp (by simp)) r',.inl ⟨rfl,aY⟩⟩
  | d :: ds,vs,fp,k + 1,es,r,e,hf=>by
    simp only [Reps] at r
    obtain⟨v,us,f1,f2,rfl,rfl,r1,r2⟩:=r
    obtain⟨a,ws,h1,h2,h3,h4,h5⟩:=Reps.modify (k:=k) r2 (by simpa using e) hf
    refine⟨a,ws,by simpa using h1,h2,h3,List.mem_append_right _ h4,fun nd us' es' r'=>?_⟩
    rw [List.nodup_append] at nd
    simp only [List.set_cons_succ,Reps]
    have na:a ∉ f1:=fun z=>nd.2.2 a z a h4 rfl
    exact⟨v,us,f1,f2,rfl,rfl,Rep.keep _ _ _ (Kp.upd h2 (by intro xs z;cases z) (by intro x u z;cases z) na) r1,h5 nd.2.1 us' es' r'⟩
section
variable {X:Cx}{m1:Bool}{rs1:List Nat}{e:Expr}{f:En->Option D}{pos p p2 p3:Pos}{i:Nat}{x:Str}{k:Int}
end
structure aM (P:Program) (w:World) (K:Frag) (mg:Str->Option Value) (base:Heap) (x:Str) (dds:List D) (k n:Nat) (F':List D->Option D):Prop where
  ex:∃ fA fd ps dvs ds,FnOk P w K mg base CX0 k fA fd ps (spD K n F') /\ mg x=some (.ref fA) /\ keepIn K (.ref fA)=true /\ Binds K fd ps ds /\ Vals dvs ds /\ ∀ H,Reps K false H dds dvs []
noncomputable def aQ (F':List D->Option D) (dds:List D) (fs:En->Option (List D)):En->Option D:=fun env=>(fs env).bind fun xs=>F' (xs ++ dds)
noncomputable def fB1 (F':List D->Option D) (fs:En->Option (List D)):En->Option D:=fun env=>(fs env).bind F'
noncomputable def sB1 (F':List D->Option (List D)) (fs:En->Option (List D)):En->Option (List D):=fun env=>(fs env).bind F'
inductive NArgs:Nat->(En->Option (List D))->Prop
  | nil:NArgs 0 aL
  | cons {n:Nat}{f:En->Option D}{fs:En->Option (List D)}:NArgs n fs->NArgs (n + 1) (aC f fs)
theorem NArgs.len {n:Nat}{fs:En->Option (List D)}(h:NArgs n fs):∀ env xs,fs env=some xs->xs.length=n:=by
  induction h with
  | nil=>intro env xs e;cases e;rfl
  | cons h ih =>
    intro env xs e
    unfold aC at e
    split at e
    . rename_i d ds h1 h2
      cases e
      rw [List.length_cons,ih env _ h2]
    . cases e
section
variable {X:Cx}{m m' m1 m2:Bool}{rs rs' rs1 rs2:List Nat}{e a b c:Expr}{es:List Expr}{f fa fb:En->Option D}{fs:En->Option (List D)}{pos p p2 pos':Pos}{i:Nat}{x nm:Str}{C:Addr}
theorem aV {k n na:Nat}{dds:List D}{F':List D->Option D}(c:aM X.prog X.w X.K X.mg X.base x dds k n F') (hr:Room k X.A) (hna:NArgs na fs) (hn:na + dds.length=n) (ha:QA X m1 rs1 (e :: es) fs) (hg:Gl X x:=by rfl)
    (hdb:(x == ("__debug__" : Str))=false:=by decide) (he:starEach (e :: es) X.env=(false,eval e X.env) :: starEach es X.env:=by rfl) (hpl:(backTo pos (starEach es X.env)).any (·.1)=false:=by rfl) :
    QE X true [] (.Call (.Name x p) (e :: es) [] pos) (aQ F' dds fs):=by
  obtain⟨fA,fd,ps,dvs,ds,G,hm,hk,hb,hd,hdd⟩:=c.ex
  exact Z2f G hr hg hm hk hb hd hdd ha (fun env xs h=>by rw [hna.len env xs h];exact hn) hdb he hpl
structure Z1M (P:Program) (w:World) (K:Frag) (mg:Str->Option Value) (base:Heap) (x:Str) (C:Addr) (k n:Nat) (F':List D->Option D):Prop where
  ex:∃ fA fd ps,Mk K C fA /\ FnOk P w K mg base CX0 k fA fd ps (spI K C n F') /\ mg x=some (.ref C) /\ Binds K fd ps []
theorem Z4W {k n:Nat}{F':List D->Option D}(c:Z1M X.prog X.w X.K X.mg X.base x C k n F') (hr:Room (k + 1) X.A) (hna:NArgs n fs) (ha:QA X m1 rs1 (e :: es) fs) (hg:Gl X x:=by rfl)
    (hdb:(x == ("__debug__" : Str))=false:=by decide) (he:starEach (e :: es) X.env=(false,eval e X.env) :: starEach es X.env:=by rfl) (hpl:(backTo pos (starEach es X.env)).any (·.1)=false:=by rfl) :
    QE X true [] (.Call (.Name x p) (e :: es) [] pos) (fB1 F' fs):=by
  obtain⟨fA,fd,ps,M,G,hm,hb⟩:=c.ex
  exact Z2c M G hr hg hm hb ha (fun env xs h=>hna.len env xs h) hdb he hpl
theorem cJ {k:Nat}{A:Around}(r:Room k A):A.units + 8 <= cLine:=by have:=r.un;omega
theorem iH {apos cpos:Pos}(i:Nat) (he:QE X true [] e f) (hN:X.N[i]? = some x:=by rfl) (hv:Vis X.env.scope x:=by first | exact Or.inl rfl | exact Or.inr (Or.inl rfl) | exact Or.inr (Or.inr rfl)) (hd:(x == ("__debug__" : Str))=false:=by decide) (hcd:(x == ("__classdict__" : Str))=false:=by decide)
    (hbase:attributeBase (.Name x p) "append" X.env (eval (.Name x p) X.env)=eval (.Name x p) X.env:=by rfl)
    (hfew:((backTo cpos (starEach [e] X.env)).all (fun x=>!x.1) && (backToKw cpos (keywordEach [] X.env)).all (fun x=>x.1.isSome)
      && decide (([e]:List Expr).length + ([]:List Keyword).length + (if ([]:List Keyword).isEmpty then 0 else 1) < 30))=true:=by rfl)
    (hline:(apos.endLine == cpos.line)=true:=by rfl) (hst:starEach [e] X.env=(false,eval e X.env) :: starEach [] X.env:=by rfl) (hplain:(backTo cpos (starEach [] X.env)).any (·.1)=false:=by rfl)
    (hs:swapsWith (.Call (.Attribute (.Name x p) "append" apos) [e] [] cpos) none pos.line X.env=pure false:=by rfl) :
    QS X (.Expr (.Call (.Attribute (.Name x p) "append" apos) [e] [] cpos) pos) (iW i f) :=
  S8 hN hv he hd hcd hst (hpe:=Z0F PySem.F.plainAttrs_list PySem.F.slot_list_append PySem.F.type_list_append pV (jA hN hv hd hcd) (pa_cons he pa_nil hst) hbase hfew hline hst hplain) (hs:=hs)
theorem M0 {k:Expr}{fk:En->Option D}{spos:Pos}(i:Nat) (hk:QE X m2 rs2 k fk) (he:QE X m1 rs1 e f) (hN:X.N[i]? = some x:=by rfl) (hv:Vis X.env.scope x:=by first | exact Or.inl rfl | exact Or.inr (Or.inl rfl) | exact Or.inr (Or.inr rfl)) (hd:(x == ("__debug__" : Str))=false:=by decide) (hcd:(x == ("__classdict__" : Str))=false:=by decide)
    (ha:∀ v,assign (.Subscript (.Name x p) k spos) X.env v=(do
      let ov <- holding [v] (eval (.Name x p) X.env)
      let iv <- holding [v,ov] (eval k X.env)
      standAt spos
      holding [v,ov,iv] (setItem ov iv v)
      release [v,ov,iv] []):=by intro _;rfl)
    (hs:swapsWithSole [.Subscript (.Name x p) k spos] e pos.line X.env=pure false:=by rfl) (hw:swappedStores [.Subscript (.Name x p) k spos] e X.env=pure none:=by rfl) :
    QS X (.Assign [.Subscript (.Name x p) k spos] e pos) (yL i fk f) :=
  Z3J hN hv he hk hd hcd (hps:=Z0A he (Z3T (jA hN hv hd hcd) hk Z05 ha) hs hw)
theorem Z26 {tg:Expr}{t:D->En->Option En}(he:QE X m rs e f) (hg:QG X tg t) (hs:swapsWithSole [tg] e pos.line X.env=pure false:=by rfl) (hw:swappedStores [tg] e X.env=pure none:=by rfl) (h1:(assignEach [tg] X.env).map (·.2)=[assign tg X.env]:=by rfl):QS X (.Assign [tg] e pos) (Z0e rs t f) :=
  Z3I he hg hs hw (hps:=Z0A he hg hs hw h1)
end
noncomputable def jY (i:Nat):En->Res:=fun env=>match env[i]? with | some (some (true,d))=>.ret d | _=>.bad
section
variable {X:Cx}{m m' m1 m2:Bool}{rs rs' rs1 rs2:List Nat}{e a b c:Expr}{es:List Expr}{f fa fb:En->Option D}{fs:En->Option (List D)}{pos p p2 p3 pos':Pos}{i j:Nat}{x y:Str}{C:Addr}
theorem Z3K {k:Nat}{i:Int}{pp:Pos}:QE X m rs (.UnaryOp .USub (.Constant (.int i) k pp) pos) (fC (.int (-i))) :=
  .mk (pe_un Z00 L2.pe_int) fun σ H Q ⟨env,F,d,ok,e,q⟩=>by cases e;exact⟨i,rfl,q _ _ _ (Same.refl H) fS .nil⟩
end
theorem FunD.raw {P:Program}{w:World}{K:Frag}{mg:Str->Option Value}{base:Heap}{x qual:Str}{st:Stmt}{f:Addr}{fd:FuncData}{N ps:List Str}{k:Nat}{sp:Sp}(F:FunD K x qual st f fd) (S:aS N ps (aE st)) (len:∀ vs H Q E,sp vs H Q E->vs.length=ps.length)
    (hbody:∀ (cdv:Value) (A:Around) (outer:List Env) (s:Shared) (H:Hp) (vs:List V) (Q:VK) (E:XK),Room k (A.deeper (envOfC qual (aE st) s.heap.objs.size f cdv))->sp vs H Q E ->
      ∃ t,PSs (zT CX0 P w K mg base N qual (aE st) f cdv A outer s H E).nox (aI st) t /\ t { nx:=fun _ H'=>Q .non H',rt:=Q } (L2.start N vs) H):FnOk P w K mg base CX0 (k + 1) f fd ps sp:=by
  obtain⟨oc,od,dV,kV,doc,pm,an,cdv,ct,osl,rfl,lk,hcd⟩:=F.ex
  refine Z1n lk hcd S len fun A outer s H vs Q E hr hsp=>?_
  obtain⟨t,h,q⟩:=hbody cdv A outer s H vs Q E hr hsp
  exact⟨t,h.nox,q⟩
theorem Z5a {K:Frag}{C x dx:Addr}{H0:Hp}{σ:L2.St}{us:List V}{ds:List D}{fp:List Addr}{n1 n2 n3:Str}{f1 f2 f3:En->Option D}{env:En}{d1 d2 d3:D}{E:A7}{F:Nat->List Addr}
    (hx:H0 x=none) (hdx:H0 dx=none) (hne:dx ≠ x) (ok:EnvOk K H0 σ env F) (h0:σ[0]? = some (some (.ref x))) (e1:f1 env=some d1) (e2:f2 env=some d2) (e3:f3 env=some d3)
    (hC:Cls K C) (a1:NoAttr K C n1) (a2:NoAttr K C n2) (a3:NoAttr K C n3) (k12:¬ n1=n2) (k13:¬ n1=n3) (k23:¬ n2=n3)
    (q:∀ H' fp',Same H0 H'->Rep K true H' (.obj C [n1,n2,n3] [d1,d2,d3]) (.ref x) fp'->(∀ b ∈ fp',H0 b=none)->fp'.Nodup->E.nx σ H') :
    Z3x (Z24 K (wG 0) (tD K true [] f1) n1) (Z3x (Z24 K (wG 0) (tD K true [] f2) n2) (Z24 K (wG 0) (tD K true [] f3) n3)) E σ (upd (upd H0 dx (.own x)) x (.ins C dx [])):=by
  have hx':upd H0 dx (.own x) x=none:=by rw [aX (Ne.symm hne)];exact hx
  have s0:Same H0 (upd (upd H0 dx (.own x)) x (.ins C dx [])):=(bM hdx).trans (bM hx')
  have stp:∀ {Ha Hb:Hp}{o:HO},Same H0 Ha->Same Ha Hb->Same H0 (upd Hb x o):=fun {Ha Hb o} sa sb b u e=>by
    rw [aX (bI e hx)];exact sb _ _ (sa _ _ e)
  have p1:∀ y1:V,kR n1 y1 []=[(n1,y1)]:=fun _=>rfl
  have p2:∀ y1 y2:V,kR n2 y2 [(n1,y1)]=[(n1,y1),(n2,y2)]:=fun y1 y2=>by simp [kR,k12]
  have p3:∀ y1 y2 y3:V,kR n3 y3 [(n1,y1),(n2,y2)]=[(n1,y1),(n2,y2),(n3,y3)]:=fun y1 y2 y3=>by simp [kR,k13,k23]
  refine⟨env,F,d1,ok.same s0,e1,fun y1 H1 g1 s1 r1 c1=>⟨.ref x,h0,x,C,dx,[],rfl,s1 _ _ aY,hC,a1,by show 0 < 1000;decide,?_⟩⟩
  rw [p1]
  have S1:Same H0 (upd H1 x (.ins C dx [(n1,y1)])):=stp s0 s1
  refine⟨env,F,d2,ok.same S1,e2,fun y2 H2 g2 s2 r2 c2=>⟨.ref x,h0,x,C,dx,[(n1,y1)],rfl,s2 _ _ aY,hC,a2,by show 1 < 1000;decide,?_⟩⟩
  rw [p2]
  have S2:Same H0 (upd H2 x (.ins C dx [(n1,y1),(n2,y2)])):=stp S1 s2
  refine⟨env,F,d3,ok.same S2,e3,fun y3 H3 g3 s3 r3 c3=>⟨.ref x,h0,x,C,dx,[(n1,y1),(n2,y2)],rfl,s3 _ _ aY,hC,a3,by show 2 < 1000;decide,?_⟩⟩
  rw [p3]
  have S3:Same H0 (upd H3 x (.ins C dx [(n1,y1),(n2,y2),(n3,y3)])):=stp S2 s3
  have x1:H1 x=some (.ins C dx []):=s1 _ _ aY
  have x2:H2 x=some (.ins C dx [(n1,y1)]):=s2 _ _ aY
  have x3:H3 x=some (.ins C dx [(n1,y1),(n2,y2)]):=s3 _ _ aY
  have hc1:=c1.2 rfl
  have hc2:=c2.2 rfl
  have hc3:=c3.2 rfl
  have nx1:x ∉ g1:=fun z=>by have:=hc1.2 x z;rw [aY] at this;cases this
  have nx2:x ∉ g2:=fun z=>by have:=hc2.2 x z;rw [aY] at this;cases this
  have nx3:x ∉ g3:=fun z=>by have:=hc3.2 x z;rw [aY] at this;cases this
  have ku:∀ {Ha:Hp}{o o':HO}{fp:List Addr},Ha x=some o->(∀ xs,o ≠ .tup xs)->(∀ a b,o ≠ .frz a b)->x ∉ fp->Kp fp Ha (upd Ha x o'):=fun h m f n=>Kp.upd h m f n
  have R1:=Rep.keep _ _ _ (ku (o':=.ins C dx [(n1,y1)]) x1 (by intro xs z;cases z) (by intro a b z;cases z) nx1) r1
  have R1':=Rep.keep _ _ _ (ku (o':=.ins C dx [(n1,y1),(n2,y2)]) x2 (by intro xs z;cases z) (by intro a b z;cases z) nx1) (R1.same s2)
  have R1'':=Rep.keep _ _ _ (ku (o':=.ins C dx [(n1,y1),(n2,y2),(n3,y3)]) x3 (by intro xs z;cases z) (by intro a b z;cases z) nx1) (R1'.same s3)
  have R2:=Rep.keep _ _ _ (ku (o':=.ins C dx [(n1,y1),(n2,y2)]) x2 (by intro xs z;cases z) (by intro a b z;cases z) nx2) r2
  have R2':=Rep.keep _ _ _ (ku (o':=.ins C dx [(n1,y1),(n2,y2),(n3,y3)]) x3 (by intro xs z;cases z) (by intro a b z;cases z) nx2) (R2.same s3)
  have R3:=Rep.keep _ _ _ (ku (o':=.ins C dx [(n1,y1),(n2,y2),(n3,y3)]) x3 (by intro xs z;cases z) (by intro a b z;cases z) nx3) r3
  have d12:∀ a ∈ g1,∀ b ∈ g2,a ≠ b:=fun a ha b hb z=>by
    obtain⟨o,ho⟩:=Rep.dom _ _ _ R1 a ha
    rw [z,hc2.2 b hb] at ho;cases ho
  have d13:∀ a ∈ g1,∀ b ∈ g3,a ≠ b:=fun a ha b hb z=>by
    obtain⟨o,ho⟩:=Rep.dom _ _ _ R1' a ha
    rw [z,hc3.2 b hb] at ho;cases ho
  have d23:∀ a ∈ g2,∀ b ∈ g3,a ≠ b:=fun a ha b hb z=>by
    obtain⟨o,ho⟩:=Rep.dom _ _ _ R2 a ha
    rw [z,hc3.2 b hb] at ho;cases ho
  refine q _ (x :: (g1 ++ (g2 ++ (g3 ++ [])))) S3 ?_ (fun b hb=>?_) ?_
  . simp only [Rep,Reps]
    exact⟨x,dx,[y1,y2,y3],g1 ++ (g2 ++ (g3 ++ [])),rfl,rfl,aY,rfl,y1,[y2,y3],g1,_,rfl,rfl,R1'',y2,[y3],g2,_,rfl,rfl,R2',y3,[],g3,[],rfl,rfl,R3,rfl,rfl⟩
  . rcases List.mem_cons.mp hb with z | z
    . rw [z];exact hx
    . rw [List.append_nil] at z
      rcases List.mem_append.mp z with z | z
      . exact s0.free (hc1.2 b z)
      . rcases List.mem_append.mp z with z | z
        . exact S1.free (hc2.2 b z)
        . exact S2.free (hc3.2 b z)
  . rw [List.append_nil]
    refine List.nodup_cons.mpr ⟨fun z=>?_,List.nodup_append.mpr ⟨hc1.1,List.nodup_append.mpr ⟨hc2.1,hc3.1,d23⟩,fun a ha b hb=>?_⟩⟩
    . rcases List.mem_append.mp z with z | z
      . exact nx1 z
      . rcases List.mem_append.mp z with z | z
        . exact nx2 z
        . exact nx3 z
    . rcases List.mem_append.mp hb with z | z
      . exact d12 a ha b z
      . exact d13 a ha b z
end PD
namespace Att
open PySem PySem.W PySem.Calls PyProof.Rows
theorem mR:∀ {ns:List Int}{i:Int},i ∈ ns->WData.weight (.int i) <= WData.weightAll (ns.map WData.int)
  | [],i,h=>nomatch h
  | n :: ns,i,h=>by
    simp only [List.map_cons,WData.weightAll]
    rcases List.mem_cons.mp h with z | z
    . subst z;omega
    . have:=mR z;omega
theorem A0 {ns:List Int}(h:WData.layableAll [WData.list (ns.map WData.int)]=true):∀ i ∈ ns,Builtin.Int.intBits i <= 1048576:=fun i hi=>by
  simp only [WData.layableAll,List.all_cons,List.all_nil,Bool.and_true,WData.layable,Bool.and_eq_true,decide_eq_true_eq,WData.weight] at h
  have h1:=mR hi
  have h2:WData.weight (.int i)=Builtin.Int.intBits i:=by simp only [WData.weight,Builtin.Int.intBits]
  rw [h2] at h1
  have h3:WData.weightAll (List.map WData.int ns) <= 2 ^ 20:=of_decide_eq_true h.2
  exact Nat.le_trans h1 h3
theorem attach_callB {l:OpenLaw}{n:Nat}{q:Program}{loose:List Str}{XP:(Str->Option Value)->Heap->Prop}{YP:World->Heap->Prop}{d:DefRec}
    (hn:l.most=some n) (hdf:d.params.defaults=[])
    (call:∀ (w:World) (s₀ s₁:Shared) (mg mb:Str->Option Value) (fa:Addr) (o:Obj) (pm cd doc:Value) (a:Addr) (vs:List Value) (ns:List Int),
      (∀ i ∈ ns,Builtin.Int.intBits i <= 1048576)->Ground q loose [] XP w s₀ mg mb s₁.heap->YP w s₁.heap ->
      s₁.heap.get? fa=some o->o.data=.func (docDef d.name d.params d.body d.scope pm cd doc)->s₁.heap.CodeRec cd d.name->mg d.name=some (.ref fa) ->
      s₁.heap.get? a=some { cls:=.type "list",data:=.seq vs.toArray }->IntsAre vs ns->ns.length <= n->s₁.gens = #[] ->
      codeAny (model l.prog w) callerA (.call (.ref fa) ⟨[.ref a],[]⟩) (fun r s'=>r=.ok (.ret (.bool true)) /\ OldK s₁.heap s'.heap /\ s'.os=s₁.os /\ AllBare s'.gens) s₁) :
    WalkO q loose XP YP l.row.toRowW d [] (fun f vs=>PySem.call f vs):=by
  intro w s₀ s₁ mg mb G Y fa o pm cd doc dV kV ho hd hcd hD hmg hg args vals as hpre hlay hrd hwl hlo
  obtain rfl:dV=.none:=Dflts.none hD hdf
  obtain rfl:kV=.none:=Dflts.noKw hD
  obtain⟨a,vs,ns,rfl,rfl,hobj,hints,hlen⟩:=R0 hn hpre hwl
  refine enter_call (codeAny_mono (call w s₀ s₁ mg mb fa o pm cd doc a vs ns (A0 hlay) G Y ho (fd_plain hd) hcd hmg hobj hints hlen hg) fun r s' hq=>?_)
  obtain⟨rfl,h2,h3,h4⟩:=hq
  exact⟨.inl ⟨.bool true,.bool true,[],rfl,fun _=>rfl,.bool true,T3 l _,fun _=>⟨List.Pairwise.nil,fun _ hm=>(nomatch hm)⟩⟩,h2,h3,h4⟩
end Att
namespace PD
open PySem PySem.Spec PyProof.Rows L2
theorem nM {K:Frag}{H:Hp}{st:Bool}:∀ (ns:List Int),Reps K st H (ns.map D.int) (ns.map V.int) []
  | []=>by simp only [List.map_nil,Reps];exact⟨trivial,trivial⟩
  | n :: ns=>by simp only [List.map_cons,Reps];exact⟨.int n,ns.map V.int,[],[],rfl,rfl,fS,nM ns⟩
theorem walkD {l:PySem.W.OpenLaw}{n k:Nat}{q:Program}{loose:List Str}{XP:(Str->Option Value)->Heap->Prop}{YP:World->Heap->Prop}{d:DefRec}{K:Params->Frag}{x:Str}
    (hn:l.most=some n) (hn2:n <= sizeLine) (hdf:d.params.defaults=[]) (hr:Room k callerA)
    (hY:∀ (w:World) (h:Heap),YP w h->(K w.params).In h)
    (F:∀ (w:World) (mg:Str->Option Value) (fa:Addr) (h:Heap),(K w.params).In h->h.Ns mainGlobals mg->mg d.name=some (.ref fa) ->
      ∃ (fd:FuncData) (m:List D->Option D),(∀ (s:Shared) (u:Value),BindsTo s fd ⟨[u],[]⟩ [(x,u)]) /\ (∀ ns:List Int,ns.length <= n->(∀ i ∈ ns,Builtin.Int.intBits i <= 1048576)->m [.lst (ns.map D.int)]=some (.bl true)) /\
        ∀ base:Heap,(K w.params).In base->base.Ns mainGlobals mg->FnOk l.prog w (K w.params) mg base CX0 k fa fd [x] (spD (K w.params) 1 m)) :
    PySem.W.WalkO q loose XP YP l.row.toRowW d [] (fun f vs=>PySem.call f vs):=by
  refine Att.attach_callB hn hdf fun w s₀ s₁ mg mb fa o pm cd doc a vs ns hbits G Y ho hd hcd hmg hobj hints hlen hg=>?_
  have KX:=hY w _ Y
  obtain⟨fd,m,hb,hm,hF⟩:=F w mg fa _ KX G.T.g hmg
  refine Z10 KX G.T.g G.T.b G.T.builtins G.T.nolimit hg hobj hints (Nat.le_trans hlen hn2) hr hF hb (fun H hO hS=>?_) fun H e s' z=>z
  have hrep:∃ fp,Reps (K w.params) false H [.lst (ns.map D.int)] [.ref a] fp:=by
    rcases Z04 hS with z | z
    . refine⟨[a],?_⟩
      simp only [Reps,Rep]
      exact⟨.ref a,[],[a],[],rfl,rfl,⟨a,_,[],rfl,nM ns,.inl ⟨rfl,z⟩⟩,rfl,rfl⟩
    . refine⟨[],?_⟩
      simp only [Reps,Rep]
      exact⟨.ref a,[],[],[],rfl,rfl,⟨a,_,[],rfl,nM ns,.inr ⟨trivial,rfl,z⟩⟩,rfl,rfl⟩
  obtain⟨fp,hrep⟩:=hrep
  exact⟨_,_,fp,rfl,hrep,hm ns hlen hbits,fun v H' fp' _ r _ _=>iG r⟩
noncomputable def gO (i j:Int):Prop:=0 <= j /\ (Builtin.Int.intBits i:Int) + j <= 2 ^ 27
theorem fQ {X:Cx}:OpR X (binaryOp .LShift) (rI gO fun i j=>.int (i * 2 ^ j.toNat)):=opI fun _ _ _ _ _ _ _ hc q=>PyProof.Rows.lshift_int hc.1 hc.2 q
theorem xL {i j:Int}{n:Nat}(h:Builtin.Int.intBits i <= n) (h0:0 <= j) (h1:(n:Int) + j <= 100000000):gO i j:=by
  have e:(2:Int) ^ 27=134217728:=by decide
  refine⟨h0,?_⟩
  rw [e]
  omega
theorem mN {j:Int}(h0:0 <= j) (h1:j <= 1000000):gO 1 j:=xL (n:=64) (PySem.intBits_le_64 (by decide) (by decide)) h0 (by omega)
theorem qp {X:Cx}{e:Expr}{f:En->Option D}(h:QE X true [] e f):QE X true [] e f:=h
open PySem PySem.Spec PyProof.Rows L2 PySem.SeqAt
section
variable {X:Cx}{pins:List (Addr × Obj)}{σ:L2.St}{H:Hp}{s:Shared}
theorem Z0R {p:Addr}{xs ys:Array Value}(h1:s.heap.IsTuple p xs) (h2:s.heap.IsList p ys):False:=by
  obtain⟨o,a1,a2,_⟩:=h1
  obtain⟨o',b1,b2,_⟩:=h2
  rw [a1] at b1
  cases b1
  rw [a2] at b2
  exact absurd b2 (by simp)
noncomputable def xR:D->Prop
  | .obj _ _ _=>False
  | .dk _ _=>False
  | .dt _ _=>False
  | .exc _=>False
  | _=>True
theorem Z2Y {n:Nat}{C:Addr}{ns:List Str}{xs:List D}{x:D}:eqN n (.obj C ns xs) x=none:=by cases n <;> cases x <;> simp only [eqN]
theorem Z4i {n:Nat}{ns:List Key}{xs:List D}{x:D}:eqN n (.dk ns xs) x=none:=by cases n <;> cases x <;> simp only [eqN]
theorem Z4h {n:Nat}{ns:List (List Key)}{xs:List D}{x:D}:eqN n (.dt ns xs) x=none:=by cases n <;> cases x <;> simp only [eqN]
theorem Z2Z {n:Nat}{C:Addr}{x:D}:eqN n (.exc C) x=none:=by cases n <;> cases x <;> simp only [eqN]
theorem vF {n:Nat}{a x:D}{k:Bool}(e:eqN n a x=some k):xR a:=by
  cases a with
  | obj C ns xs=>rw [Z2Y] at e;cases e
  | dk ns xs=>rw [Z4i] at e;cases e
  | dt ns xs=>rw [Z4h] at e;cases e
  | exc C=>rw [Z2Z] at e;cases e
  | _=>trivial
theorem Z0d {st1 st2:Bool}(I:Inv X pins σ H s) {a b:D}{v:V}{f1 f2:List Addr}(ra:Rep X.K st1 H a v f1) (rb:Rep X.K st2 H b v f2) (ha:xR a) (hb:xR b) :
    a=b \/ (∃ xs ys vs g1 g2,a=.tup xs /\ b=.tup ys /\ Reps X.K st1 H xs vs g1 /\ Reps X.K st2 H ys vs g2) \/ (∃ xs ys vs g1 g2,a=.lst xs /\ b=.lst ys /\ Reps X.K st1 H xs vs g1 /\ Reps X.K st2 H ys vs g2):=by
  have tl:∀ {xs ys:List D}{st st':Bool}{v:V}{g g':List Addr},Rep X.K st H (.tup xs) v g->Rep X.K st' H (.lst ys) v g'->False:=by
    intro xs ys st st' v g g' r1 r2
    simp only [Rep] at r1
    obtain⟨p,vs,rfl,hs,_⟩:=r1
    obtain⟨p',us,_,e,hs',_,_⟩:=bW r2
    cases e
    obtain⟨_,_,pl,_⟩:=I.tuple hs
    obtain⟨_,_,pl2,_⟩:=I.list hs'
    exact Z0R pl pl2.isList
  have sc:∀ {d:D}{st:Bool}{v:V}{g:List Addr},Rep X.K st H d v g->xR d->(∀ p,v ≠ .ref p)->(d=.non /\ v=.non) \/ (∃ b,d=.bl b /\ v=.bl b) \/ (∃ i,d=.int i /\ v=.int i) \/ (∃ z,d=.str z /\ v=.str z):=by
    intro d st v g r ho hv
    cases d with
    | non=>exact .inl ⟨rfl,gP r⟩
    | bl b=>exact .inr (.inl ⟨b,rfl,iG r⟩)
    | int b=>exact .inr (.inr (.inl ⟨b,rfl,bH r⟩))
    | str b=>exact .inr (.inr (.inr ⟨b,rfl,gE r⟩))
    | tup xs=>simp only [Rep] at r;obtain⟨p,_,e,_⟩:=r;exact absurd e (hv p)
    | lst xs=>obtain⟨p,_,_,e,_⟩:=bW r;exact absurd e (hv p)
    | obj _ _ _=>exact ho.elim
    | dk _ _=>exact ho.elim
    | dt _ _=>exact ho.elim
    | exc _=>exact ho.elim
  by_cases hv:∃ p,v=.ref p
  . obtain⟨p,rfl⟩:=hv
    cases a with
    | non=>have:=gP ra;cases this
    | bl b=>have:=iG ra;cases this
    | int b=>have:=bH ra;cases this
    | str b=>have:=gE ra;cases this
    | obj _ _ _=>exact ha.elim
    | dk _ _=>exact ha.elim
    | dt _ _=>exact ha.elim
    | exc _=>exact ha.elim
    | tup xs =>
      cases b with
      | non=>have:=gP rb;cases this
      | bl b=>have:=iG rb;cases this
      | int b=>have:=bH rb;cases this
      | str b=>have:=gE rb;cases this
      | obj _ _ _=>exact hb.elim
      | dk _ _=>exact hb.elim
      | dt _ _=>exact hb.elim
      | exc _=>exact hb.elim
      | lst ys=>exact (tl ra rb).elim
      | tup ys =>
        simp only [Rep] at ra rb
        obtain⟨q,vs,e,hs,hr⟩:=ra
        obtain⟨q',us,e',hs',hr'⟩:=rb
        cases e
        cases e'
        obtain rfl:=I.tuple_inj hs hs'
        exact .inr (.inl ⟨xs,ys,_,_,_,rfl,rfl,hr,hr'⟩)
    | lst xs =>
      cases b with
      | non=>have:=gP rb;cases this
      | bl b=>have:=iG rb;cases this
      | int b=>have:=bH rb;cases this
      | str b=>have:=gE rb;cases this
      | obj _ _ _=>exact hb.elim
      | dk _ _=>exact hb.elim
      | dt _ _=>exact hb.elim
      | exc _=>exact hb.elim
      | tup ys=>exact (tl rb ra).elim
      | lst ys =>
        obtain⟨q,vs,_,e,hs,hr,_⟩:=bW ra
        obtain⟨q',us,_,e',hs',hr',_⟩:=bW rb
        cases e
        cases e'
        obtain rfl:=I.list_inj hs hs'
        exact .inr (.inr ⟨xs,ys,_,_,_,rfl,rfl,hr,hr'⟩)
  . have hv':∀ p,v ≠ .ref p:=fun p e=>hv ⟨p,e⟩
    left
    rcases sc ra ha hv' with ⟨rfl,h⟩ | ⟨b',rfl,h⟩ | ⟨i,rfl,h⟩ | ⟨z,rfl,h⟩ <;> rcases sc rb hb hv' with ⟨rfl,k⟩ | ⟨b'',rfl,k⟩ | ⟨j,rfl,k⟩ | ⟨y,rfl,k⟩ <;> first | rfl | (have z:=h.symm.trans k;cases z;rfl) | (have z:=h.symm.trans k;cases z;done)
theorem Z1t {st1 st2:Bool}(I:Inv X pins σ H s):∀ (n:Nat) (a b x:D) (v:V) (f1 f2:List Addr) (k k':Bool),Rep X.K st1 H a v f1->Rep X.K st2 H b v f2->eqN n a x=some k->eqN n b x=some k'->k=k':=by
  intro n
  induction n with
  | zero=>intro a b x v f1 f2 k k' _ _ e;simp [eqN] at e
  | succ n ih =>
    have seq:∀ (xs ys zs:List D) (vs:List V) (f1 f2:List Addr) (k k':Bool),Reps X.K st1 H xs vs f1->Reps X.K st2 H ys vs f2->eqL (eqN n) xs zs=some k->eqL (eqN n) ys zs=some k'->k=k':=by
      intro xs
      induction xs with
      | nil =>
        intro ys zs vs f1 f2 k k' r1 r2 e e'
        have l1:=r1.length
        have l2:=r2.length
        have:ys=[]:=by rw [<- List.length_eq_zero_iff,<- l2,l1];rfl
        subst this
        rw [e] at e';cases e';rfl
      | cons x xs ihx =>
        intro ys zs vs f1 f2 k k' r1 r2 e e'
        cases ys with
        | nil =>
          have l1:=r1.length
          have l2:=r2.length
          rw [l1] at l2;simp at l2
        | cons y ys =>
          cases zs with
          | nil=>simp only [eqL] at e e';cases e;cases e';rfl
          | cons z zs =>
            simp only [Reps] at r1 r2
            obtain⟨v,us,g1,g2,rfl,_,a1,a2⟩:=r1
            obtain⟨v',us',g3,g4,e0,_,b1,b2⟩:=r2
            cases e0
            simp only [eqL] at e e'
            split at e
            . rename_i c d h1 h2
              cases e
              split at e'
              . rename_i c' d' h1' h2'
                cases e'
                rw [ih _ _ _ _ _ _ _ _ a1 b1 h1 h1',ihx _ _ _ _ _ _ _ a2 b2 h2 h2']
              . cases e'
            . cases e
    intro a b x v f1 f2 k k' ra rb e e'
    have ha:=vF e
    have hb:=vF e'
    rcases Z0d I ra rb ha hb with rfl | ⟨xs,ys,vs,g1,g2,rfl,rfl,r1,r2⟩ | ⟨xs,ys,vs,g1,g2,rfl,rfl,r1,r2⟩
    . rw [e] at e';cases e';rfl
    . have l1:=r1.length
      have l2:=r2.length
      cases x with
      | tup zs =>
        simp only [eqN] at e e'
        cases h1:eqL (eqN n) xs zs with
        | none=>rw [h1] at e;cases e
        | some c =>
          cases h2:eqL (eqN n) ys zs with
          | none=>rw [h2] at e';cases e'
          | some c' =>
            rw [h1] at e;rw [h2] at e'
            cases e;cases e'
            rw [seq _ _ _ _ _ _ _ _ r1 r2 h1 h2,<- l1,<- l2]
      | non=>simp only [eqN] at e e';cases e;cases e';rfl
      | _=>simp only [eqN] at e;cases e
    . have l1:=r1.length
      have l2:=r2.length
      cases x with
      | lst zs =>
        simp only [eqN] at e e'
        by_cases hl:vs.length=zs.length
        . rw [if_pos (by omega)] at e e'
          exact seq _ _ _ _ _ _ _ _ r1 r2 e e'
        . rw [if_neg (by omega)] at e e'
          cases e;cases e';rfl
      | non=>simp only [eqN] at e e';cases e;cases e';rfl
      | _=>simp only [eqN] at e;cases e
end
noncomputable def inD (x:D):List D->Option Bool
  | []=>some false
  | y :: ys=>match eqN 8 y x,inD x ys with
    | some a,some b=>some (a || b)
    | _,_=>none
theorem N6 {x:D}:∀ {ys:List D}{k:Bool},inD x ys=some k->(∀ (i:Nat) (y:D),ys[i]? = some y->∃ c,eqN 8 y x=some c) /\ (k=true ↔ ∃ (i:Nat) (y:D),ys[i]? = some y /\ eqN 8 y x=some true)
  | [],k,h=>by simp only [inD] at h;cases h;exact⟨fun i y e=>by simp at e,by simp⟩
  | y :: ys,k,h=>by
    simp only [inD] at h
    split at h
    . rename_i a b h1 h2
      cases h
      obtain⟨g1,g2⟩:=N6 h2
      refine⟨fun i z e=>?_,?_⟩
      . cases i with
        | zero=>simp at e;subst e;exact⟨a,h1⟩
        | succ i=>exact g1 i z (by simpa using e)
      . rw [Bool.or_eq_true,g2]
        constructor
        . rintro (z | ⟨i,z,e1,e2⟩)
          . exact⟨0,y,rfl,by rw [h1,z]⟩
          . exact⟨i + 1,z,by simpa using e1,e2⟩
        . rintro⟨i,z,e1,e2⟩
          cases i with
          | zero=>simp at e1;subst e1;rw [h1] at e2;cases e2;exact .inl rfl
          | succ i=>exact .inr ⟨i,z,by simpa using e1,e2⟩
    . cases h
section
variable {X:Cx}{pins:List (Addr × Obj)}{σ:L2.St}{H:Hp}{s:Shared}
theorem Z1b {st1 st2:Bool}(I:Inv X pins σ H s) {A:Around}{x:D}{ys:List D}{v:V}{vs:List V}{u:Value}{its:List Value}{f g:List Addr}{k:Bool}(hu:A.units + 8 <= cLine) (rx:Rep X.K st1 H x v f) (rv:RelV v u) (r:Reps X.K st2 H ys vs g) (w:Vals vs its) (h:inD x ys=some k) :
    ∃ e:Value->Bool,(∀ y ∈ its,EqAt A s y u (e y)) /\ its.any e=k:=by
  obtain⟨h1,h2⟩:=N6 h
  classical
  have at_:∀ (i:Nat) (y:Value),its[i]? = some y->∃ (z:D) (vz:V) (fz:List Addr),ys[i]? = some z /\ Rep X.K st2 H z vz fz /\ RelV vz y:=by
    intro i y e
    have hi:i < its.length:=(List.getElem?_eq_some_iff.mp e).1
    have l1:=r.length
    have l2:=w.length
    have hy:i < ys.length:=by omega
    obtain⟨vz,fz,a1,a2,_⟩:=r.get (List.getElem?_eq_getElem hy)
    obtain⟨y',c1,c2⟩:=w.get a1
    rw [e] at c1;cases c1
    exact⟨_,vz,fz,List.getElem?_eq_getElem hy,a2,c2⟩
  let e:Value->Bool:=fun y=>decide (∃ (i:Nat) (z:D),its[i]? = some y /\ ys[i]? = some z /\ eqN 8 z x=some true)
  have key:∀ (i:Nat) (y:Value) (z:D) (c:Bool),its[i]? = some y->ys[i]? = some z->eqN 8 z x=some c->e y=c:=by
    intro i y z c a1 a2 a3
    by_cases hh:∃ (i:Nat) (z:D),its[i]? = some y /\ ys[i]? = some z /\ eqN 8 z x=some true
    . have:e y=true:=decide_eq_true hh
      rw [this]
      obtain⟨j,z',b1,b2,b3⟩:=hh
      obtain⟨z1,v1,g1,c1,c2,c3⟩:=at_ i y a1
      obtain⟨z2,v2,g2,d1,d2,d3⟩:=at_ j y b1
      rw [a2] at c1;cases c1
      rw [b2] at d1;cases d1
      have hvv:v1=v2:=RelV.inj c3 d3
      subst hvv
      exact (Z1t I 8 _ _ _ _ _ _ _ _ d2 c2 b3 a3)
    . have:e y=false:=decide_eq_false hh
      rw [this]
      cases c with
      | false=>rfl
      | true=>exact absurd ⟨i,z,a1,a2,a3⟩ hh
  refine⟨e,fun y hy=>?_,?_⟩
  . obtain⟨i,hi⟩:=List.getElem?_of_mem hy
    obtain⟨z,vz,g,c1,c2,c3⟩:=at_ i y hi
    obtain⟨c,hc⟩:=h1 i z c1
    rw [key i y z c hi c1 hc]
    exact (Z1s I 8 A z x vz v y u g f c hu c2 rx c3 rv hc).1
  . rw [Bool.eq_iff_iff,List.any_eq_true,h2]
    constructor
    . rintro⟨y,hy,he⟩
      have:=of_decide_eq_true he
      obtain⟨i,z,_,a2,a3⟩:=this
      exact⟨i,z,a2,a3⟩
    . rintro⟨i,z,a2,a3⟩
      have l1:=r.length
      have l2:=w.length
      have hi:i < its.length:=by have:=(List.getElem?_eq_some_iff.mp a2).1;omega
      exact⟨its[i],List.getElem_mem hi,by rw [key i _ z true (List.getElem?_eq_getElem hi) a2 a3]⟩
end
section
variable {X:Cx}{m m' m1 m2:Bool}{rs rs' rs1 rs2:List Nat}{e a b c:Expr}{fa fb:En->Option D}{pos:Pos}
noncomputable def inF:D->D->Option Bool
  | x,.lst ys=>inD x ys
  | x,.tup ys=>inD x ys
  | .str i,.str j=>some (!(Builtin.Str.occurrences j i 0 j.length 1).isEmpty)
  | _,_=>none
noncomputable def fIn (fa fb:En->Option D):En->Option Bool:=fun env=>match fa env,fb env with
  | some x,some y=>inF x y
  | _,_=>none
noncomputable def Z5K (neg:Bool) (K:Frag):R2:=fun v u H Q=>∃ a b f1 f2 k st1 st2,Rep K st1 H a v f1 /\ Rep K st2 H b u f2 /\ inF a b=some k /\ Q (.bl (if neg then !k else k)) H
theorem Z40 (hu:X.A.units + 9 <= cLine):OpR X (compareOp .In) (Z5K false X.K):=by
  rintro pins s σ H x y v u Q I rx ry ⟨a,b,f1,f2,k,st1,st2,r1,r2,e,q⟩
  cases b with
  | lst ys =>
    obtain⟨p,vs,_,rfl,hs,hr,_⟩:=bW r2
    cases ry
    obtain⟨its,w,pl,hz⟩:=I.list hs
    obtain⟨ee,h1,h2⟩:=Z1b (A:=X.A.in1) I (by rw [qF];omega) r1 rx hr w (show inD a ys=some k from e)
    refine SeqAt.in_listAt ee pl.isList (fun y hy=>h1 y (by simpa using hy)) ⟨.bl _,H,I,rfl,?_⟩
    rw [show its.toArray.any ee=its.any ee by simp,h2]
    exact q
  | tup ys =>
    simp only [Rep] at r2
    obtain⟨p,vs,rfl,hs,hr⟩:=r2
    cases ry
    obtain⟨its,w,pl,hz⟩:=I.tuple hs
    obtain⟨ee,h1,h2⟩:=Z1b (A:=X.A.in1) I (by rw [qF];omega) r1 rx hr w (show inD a ys=some k from e)
    refine SeqAt.in_tupleAt ee pl (fun y hy=>h1 y (by simpa using hy)) ⟨.bl _,H,I,rfl,?_⟩
    rw [show its.toArray.any ee=its.any ee by simp,h2]
    exact q
  | str j =>
    cases a with
    | str i =>
      have e1:=gE r1
      have e2:=gE r2
      subst e1 e2
      have e3:k=_:=(Option.some.inj e).symm
      subst e3
      exact U0 pins s σ H _ _ v u Q I rx ry ⟨i,j,rfl,rfl,q⟩
    | _=>simp only [inF] at e;cases e
  | _=>cases a <;> (simp only [inF] at e;cases e)
theorem zP {env:En}{bb:Bool}(e:fIn fa fb env=some bb):∃ x y,fa env=some x /\ fb env=some y /\ inF x y=some bb:=by
  unfold fIn at e
  split at e
  . rename_i x y h1 h2;exact⟨x,y,h1,h2,e⟩
  . cases e
theorem L8 (hu:X.A.units + 9 <= cLine) (ha:QE X m1 rs1 a fa) (hb:QE X m2 rs2 b fb) (hm:behindInMarks .In b=false:=by with_unfolding_all rfl):QT X (.Compare a [.In] [b] pos) (fIn fa fb) :=
  sJ (Z40 hu) ha hb hm (fun env x y K H v u f1 f2 Q bb e ea eb r1 r2 hK q=>by
    subst hK
    obtain⟨x',y',h1,h2,h3⟩:=zP e
    rw [ea] at h1;rw [eb] at h2;cases h1;cases h2
    exact⟨x,y,f1,f2,bb,_,_,r1,r2,h3,q⟩) fun env bb e=>let ⟨x,y,h1,h2,_⟩:=zP e;⟨x,y,h1,h2⟩
theorem L1 {k:Nat}{A:Around}(r:Room k A):A.units + 9 <= cLine:=by have:=r.un;omega
end
open Classical in
section
variable {X:Cx}{c:Expr}{c':En->Option Bool}{g:En->Res}{body:List Stmt}{pos:Pos}
end
section
variable {X:Cx}{m m' m1 m2:Bool}{rs rs' rs1 rs2:List Nat}{e a b c o:Expr}{es:List Expr}{f fa fb fo fe:En->Option D}{fs:En->Option (List D)}{pos p apos cpos:Pos}
noncomputable def kW:List D->Option (List Bool)
  | []=>some []
  | .bl x :: r=>(kW r).map (x :: ·)
  | _ :: _=>none
theorem tS {K:Frag}{st:Bool}{H:Hp}:∀ {ds:List D}{ys:List Bool}{vs:List V}{fp:List Addr},kW ds=some ys->Reps K st H ds vs fp->vs=ys.map V.bl
  | [],ys,vs,fp,e,r=>by simp only [kW] at e;cases e;simp only [Reps] at r;rw [r.1];rfl
  | d :: ds,ys,vs,fp,e,r=>by
    simp only [Reps] at r
    obtain⟨v,us,f1,f2,rfl,rfl,r1,r2⟩:=r
    cases d with
    | bl x =>
      simp only [kW] at e
      cases h:kW ds with
      | none=>rw [h] at e;cases e
      | some zs =>
        rw [h] at e
        cases e
        rw [iG r1,tS h r2]
        rfl
    | _=>simp only [kW] at e;cases e
theorem zZ:∀ {ys:List Bool}{us:List Value},Vals (ys.map V.bl) us->us=ys.map Value.bool
  | [],_,.nil=>rfl
  | y :: ys,_,.cons r w=>by cases r;rw [zZ w];rfl
theorem R7 (ys:List Bool):((List.range ys.length).all fun i=>ys.getD i true)=ys.all id:=by
  rw [Bool.eq_iff_iff,List.all_eq_true,List.all_eq_true]
  constructor
  . intro h y hy
    obtain⟨i,hi⟩:=List.getElem?_of_mem hy
    have:=h i (by simpa using (List.getElem?_eq_some_iff.mp hi).1)
    simpa [List.getD,hi] using this
  . intro h i hi
    have hi':i < ys.length:=by simpa using hi
    have:=h ys[i] (List.getElem_mem hi')
    simpa [List.getD,hi'] using this
theorem Y0 (hc:X.calm=true):CallR X (.builtin "all") (fun vs H Q=>∃ (a:Addr) (ys:List Bool),vs=[.ref a] /\ SqL X.K H a (ys.map V.bl) /\ Q (.bl (ys.all id)) H):=fun pins s σ H xs us Q I w h=>by
  obtain⟨a,ys,rfl,hs,q⟩:=h
  obtain⟨u,rfl,r⟩:=oT w
  cases (show u=Value.ref a from r)
  obtain⟨its,w1,pl,_⟩:=I.list hs
  have hb:=zZ w1
  subst hb
  have hl:=pl.isList
  obtain⟨o,ho,_⟩:=id hl
  have hlt:a ≠ s.heap.objs.size:=Nat.ne_of_lt (Heap.lt_size ho)
  refine call_all_walk (wpAny_pyIter_list hl ?_)
  refine⟨s.heap.objs.size,_,_,_,_,_,fun i=>ys.getD i true,rfl,Walks.list (A:=X.A.in1) (I.ok.hd hc) s.heap.objs.size a hlt (ys.map Value.bool).toArray,⟨⟨_,Heap.get?_push_size _ rfl,rfl,rfl⟩,hl.at fun o e=>Heap.get?_push_of_some _ e⟩,?_,fun h' tk hk=>?_⟩
  . intro i v s' Q' E' hv hq
    have hv':(ys.map Value.bool)[i]? = some v:=by simpa using hv
    rw [List.getElem?_map] at hv'
    cases hy:ys[i]? with
    | none=>rw [hy] at hv';cases hv'
    | some y =>
      rw [hy] at hv'
      cases hv'
      have hq':Q' y s':=by simpa [List.getD,hy] using hq
      exact wpAny_truthy_bool hq'
  . have hk':∀ b o,s.heap.get? b=some o->h'.get? b=some o:=fun b o e=>hk b o (fun hm=>by
      have:b=s.heap.objs.size:=by simpa using hm
      exact absurd (Heap.lt_size e) (by rw [this];exact Nat.lt_irrefl _)) (Heap.get?_push_of_some _ e)
    refine⟨.bl (ys.all id),H,I.kept hk',?_,q⟩
    have e1:=R7 ys
    show Value.bool _=Value.bool _
    rw [<- e1]
    simp
noncomputable def Z1N:List D->Option D
  | [.lst ds]=>(kW ds).map fun ys=>.bl (ys.all id)
  | _=>none
theorem Z3M {p:Pos}(hcm:X.calm=true) (hg:Gl X "all") (hm:X.mg "all" = none) (ha:QE X m1 rs1 a fa) (he:starEach [a] X.env=(false,eval a X.env) :: starEach [] X.env:=by rfl) (hpl:(backTo pos (starEach [] X.env)).any (·.1)=false:=by rfl) :
    QE X m rs (.Call (.Name "all" p) [a] [] pos) (fun env=>(aC fa aL env).bind Z1N) :=
  lE (Y0 hcm) hg hm PyProof.Rows.boot_all (aD ha aJ he) (fun ds d vs H fp Q e r q=>by
    unfold Z1N at e
    split at e
    . rename_i ds'
      cases hq:kW ds' with
      | none=>rw [hq] at e;cases e
      | some ns =>
        rw [hq] at e
        cases e
        obtain⟨v,rfl,r1⟩:=jX r
        obtain⟨p,ws,fp',rfl,hsq,hr,hsub⟩:=bW r1
        rw [tS hq hr] at hsq
        exact⟨p,ns,rfl,hsq,q _ _ [] (Same.refl H) sV (fun b hb=>(by cases hb)) List.nodup_nil⟩
    . cases e) (he:=he) (hpl:=hpl)
end
section
variable {X:Cx}{tg:Expr}{m1:Bool}{rs:List Nat}{a:Expr}{fa:En->Option D}
end
noncomputable def esK:List (Str × Int)->List DictEntry->Prop
  | [],[]=>True
  | p :: kvs,e :: es=>((∃ t,e.key=.str p.1 t) /\ ∃ t,e.val=.int p.2 t) /\ esK kvs es
  | _,_=>False
structure Z5T (K:Frag) (P:Params) (mg:Str->Option Value) (name:Str) (kvs:List (Str × Int)):Prop where
  ex:∃ a es n,mg name=some (.ref a) /\ K.lookup a=some ⟨.type "dict",none,.dict es n,#[]⟩ /\ PySem.W.KeysLit P es.toList /\ (a == sysModules)=false /\ esK kvs es.toList
section
variable {X:Cx}{m m' m1 m2:Bool}{rs rs' rs1 rs2:List Nat}{e:Expr}{fe:En->Option D}{p apos cpos:Pos}{nm:Str}{kvs:List (Str × Int)}
end
structure Z5V (K:Frag) (C:Addr):Prop where
  cl:Cls K C
  ha:PySem.W.findIn K (.ref C) "__class__" = some (some (.builtin "object.__class__"))
  hn:PySem.W.specialIn K (.builtin "object.__class__") "__get__" = some (some (.builtin "getset_descriptor.__get__"))
  htk:PySem.W.takesIn K (.builtin "object.__class__")=some true
  hm:PySem.W.mroIn K C (.type "object")=some true
open Classical in
section
variable {X:Cx}{m m1:Bool}{rs rs1:List Nat}{a:Expr}{fa:En->Option D}{p p2 pos:Pos}{cn:Str}{C:Addr}
end
section
variable {X:Cx}{m m1:Bool}{rs rs1:List Nat}{e:Expr}{f:En->Option D}{p pos pos' bpos:Pos}{x y:Str}{i j:Nat}
noncomputable def iA (j i:Nat) (f:En->Option D):En->Res:=fun env=>match env[i]?,f env with
  | some (some (true,.lst xs)),some (.lst ys)=>if flats xs=true /\ xs.length + ys.length <= 1000 then .next (env.set j (some (true,.lst (xs ++ ys)))) else .bad
  | _,_=>.bad
theorem Z1A {K:Frag}{P H:Hp}{σ:L2.St}{env:En}{F:Nat->List Addr}{xs ys:List D}{Q:VK}(hF:EnvS K P H σ env F) (ei:env[i]? = some (some (true,.lst xs))) (ef:f env=some (.lst ys)) (hx:flats xs=true) (hl:xs.length + ys.length <= 1000)
    (q:∀ v H' fp,Same H H'->Rep K true H' (.lst (xs ++ ys)) v fp->fp.Nodup->(∀ b ∈ fp,H b=none)->Q v H'):∃ v,σ[i]? = some (some v) /\ tD K true [] f σ H fun u H2=>Z4U v u H2 Q:=by
  obtain⟨v,hv1,_⟩:=hF.ok i true _ ei
  obtain⟨a1,a2,a3,a4⟩:=hF.own i _ ei
  obtain⟨a,vs,g1,rfl,eg,ha,hr⟩:=mU (a3 v hv1)
  obtain⟨rfl,hr0⟩:=Reps.flat _ _ _ hx hr
  refine⟨.ref a,hv1,env,F,.lst ys,hF.ok,ef,fun u H2 f2 s2 r2 c2=>?_⟩
  obtain⟨b,us,g2,rfl,rfl,hb,hr2⟩:=mU r2
  have hc2:=c2.2 rfl
  refine⟨a,b,vs,us,rfl,rfl,s2 _ _ ha,hb,oX (by rw [hr.length,hr2.length];exact hl),fun p hp=>?_⟩
  have hr3:Reps K true H2 (xs ++ ys) (vs ++ us) ([] ++ g2):=((hr0 true).same s2).append hr2
  rw [List.nil_append] at hr3
  refine q _ _ (p :: g2) (s2.trans (bM hp)) (kT hp hr3) ?_ fun c hc=>?_
  . refine List.nodup_cons.mpr ⟨fun z=>?_,(List.nodup_cons.mp hc2.1).2⟩
    obtain⟨o,ho⟩:=Reps.dom _ _ _ hr2 p z
    rw [hp] at ho;cases ho
  . rcases List.mem_cons.mp hc with z | z
    . rw [z];exact s2.free hp
    . exact hc2.2 c (List.mem_cons_of_mem _ z)
theorem nO (j i:Nat) (hNd:X.N.Nodup) (hj:X.N[j]? = some y) (hy:Loc X.env.scope y) (he:QE X true [] e f) (hN:X.N[i]? = some x:=by rfl) (hv:Vis X.env.scope x:=by first | exact Or.inl rfl | exact Or.inr (Or.inl rfl) | exact Or.inr (Or.inr rfl)) (hd:(x == ("__debug__" : Str))=false:=by decide) (hcd:(x == ("__classdict__" : Str))=false:=by decide)
    (hs:swapsWith (.BinOp (.Name x p) .Add e bpos) (some (.Name y pos')) pos.line X.env=pure false:=by rfl) (hf:X.fn y=true \/ X.env.scope.names.lookup y=some .local:=by first | exact .inl rfl | exact .inr rfl | assumption) :
    QS X (.Assign [.Name y pos'] (.BinOp (.Name x p) .Add e bpos) pos) (iA j i f):=.mk (Z0z hNd hj hy (L2.pe_op Z41 (jA hN hv hd hcd) he) hs hf) fun E σ H ⟨P,env,I,q⟩=>by
  obtain⟨F,hF⟩:=I.ex
  unfold iA at q
  split at q
  . rename_i xs ys ei ef
    split at q
    . rename_i h
      exact Z1A hF.nrm ei ef h.1 h.2 fun v H' fp s r nd fr=>q _ _ (uX j I.same I.len hF.nrm s r nd fr)
    . exact q.elim
  . exact q.elim
end
section
variable {prog:Program}{w:World}{A:Around}{E:Value->Shared->Prop}{s:Shared}
theorem rF:isSubtype (.type "range_iterator") (.type "reversed")=pure false:=by rw [isSubtype_type];kernel_rfl
theorem Z0b {b:Int}(h1:-(2 ^ 62) <= b) (h2:b < 2 ^ 62):(Builtin.Range.rangeFitsLong 0 && Builtin.Range.rangeFitsLong b && Builtin.Range.rangeFitsLong 1 && Builtin.Range.rangeFitsLong (-1) && Builtin.Range.rangeFitsLong (0 - 1) && Builtin.Range.rangeFitsLong (Builtin.Range.rangeSize 0 b 1))=true:=by
  rw [rangeSize_one]
  simp only [Builtin.Range.rangeFitsLong,Bool.and_eq_true,decide_eq_true_eq]
  split <;> omega
theorem tQ {r:Addr}{b:Int}{t u v:Tok}{Q:Value->Shared->Prop}(hr:IsRange s.heap r 0 b 1 t u v) (h1:-(2 ^ 62) <= b) (h2:b < 2 ^ 62)
    (h:Q (.ref s.heap.objs.size) { s with heap:=s.heap.push { cls:=.type "range_iterator",data:=.fields #[rawInt (0 + (Builtin.Range.rangeSize 0 b 1 - 1) * 1),rawInt (Builtin.Range.rangeSize 0 b 1),rawInt (-1)] } }) :
    wpAny (model prog w) A (call (.builtin "range.__reversed__") [.ref r]) Q E s:=by
  have hT:s.TypeIs (.ref r) "range":=⟨_,hr,rfl⟩
  refine wpAny_call_entry F.slot_range_reversed hT F.entry_range_reversed ?_ (F.args_range_reversed_1 _)
  unfold Builtin.«range.__reversed__»
  refine wpAny_bind (wpAny_of_eq (a:=Value.ref r) rfl ?_)
  have hs:=Z0b h1 h2
  unfold Builtin.Range.rangeFields
  refine wpAny_bind ?_
  refine wpAny_bind (wpAny_field hr rfl (x:=.int 0 t) rfl ?_)
  refine wpAny_bind (wpAny_of_eq (a:=some 0) rfl ?_)
  refine wpAny_bind (wpAny_field hr rfl (x:=.int b u) rfl ?_)
  refine wpAny_bind (wpAny_of_eq (a:=some b) rfl ?_)
  refine wpAny_bind (wpAny_field hr rfl (x:=.int 1 v) rfl ?_)
  refine wpAny_bind (wpAny_of_eq (a:=some 1) rfl ?_)
  refine wpAny_pure ?_
  simp only [hs,Bool.not_true,Bool.false_eq_true,if_false,if_true]
  first
    | exact wpAny_bind (wpAny_newObj_type (wpAny_pure ⟨_,rfl,h⟩))
    | exact wpAny_bind (wpAny_pure (wpAny_bind (wpAny_newObj_type (wpAny_pure ⟨_,rfl,h⟩))))
    | (unfold newFields;exact wpAny_bind (wpAny_newObj_type (wpAny_pure ⟨_,rfl,h⟩)))
    | (unfold newFields;exact wpAny_bind (wpAny_pure (wpAny_bind (wpAny_newObj_type (wpAny_pure ⟨_,rfl,h⟩)))))
theorem pM {r:Addr}{b:Int}{t u v:Tok}{Q₁:Value->Shared->Prop}(hr:IsRange s.heap r 0 b 1 t u v) (h1:-(2 ^ 62) <= b) (h2:b < 2 ^ 62)
    (h:Q₁ (.ref s.heap.objs.size) { s with heap:=s.heap.push { cls:=.type "range_iterator",data:=.fields #[rawInt (0 + (Builtin.Range.rangeSize 0 b 1 - 1) * 1),rawInt (Builtin.Range.rangeSize 0 b 1),rawInt (-1)] } }) :
    codeAny (model prog w) A (.call (.builtin "reversed.__new__") ⟨[.type "reversed",.ref r],[]⟩) (wants Q₁ E) s:=by
  have hT:s.TypeIs (.ref r) "range":=⟨_,hr,rfl⟩
  refine codeAny_of_tree ?_
  show wpAny _ A.in1 (do checkBuiltinCall "reversed.__new__" ⟨[.type "reversed",.ref r],[]⟩;again (.builtin "reversed.__new__" ⟨[.type "reversed",.ref r],[]⟩)) _ _ s
  refine wpAny_bind (wpAny_of_eq (F.newCall_reversed_1 _) (wpAny_pure ⟨plainId_quiet F.plain_reversed_new _,codeAny_builtin F.entry_reversed_new ?_⟩))
  rw [Around.under_plainId F.plain_reversed_new _]
  unfold Builtin.«reversed.__new__»
  refine wpAny_bind (wpAny_of_eq (newClass_reversed _) ?_)
  try dsimp only
  refine wpAny_bind (wpAny_of_eq (a:=()) (by first | rfl | kernel_rfl) ?_)
  refine wpAny_bind (wpAny_of_eq (a:=()) (by first | rfl | kernel_rfl) ?_)
  try dsimp only
  refine wpAny_bind (wpAny_specialOf hT F.slot_range_reversed.lookup ?_)
  try dsimp only
  refine wpAny_bind (wpAny_of_eq (F.slot_range_reversed.bind _) ?_)
  try dsimp only
  first
  | rw [if_neg (show ¬ ((Value.builtin "range.__reversed__" == Value.none)=true) from Bool.false_ne_true)]
  | (show wpAny _ _ (if (Value.builtin "range.__reversed__" == Value.none)=true then _ else _) _ _ _;rw [if_neg (show ¬ ((Value.builtin "range.__reversed__" == Value.none)=true) from Bool.false_ne_true)])
  refine wpAny_bind (wpAny_rule ?_)
  refine wpAny_bind (m:=runValue (.call (.builtin "range.__reversed__") ⟨[.ref r],[]⟩)) (show wpAny _ _ (call (.builtin "range.__reversed__") [.ref r]) _ _ _ from tQ hr h1 h2 ?_)
  first
  | exact wpAny_pure h
  | exact wpAny_bind (wpAny_pure (wpAny_pure h))
theorem pN {r:Addr}{b:Int}{t u v:Tok}{Q:Value->Shared->Prop}(hr:IsRange s.heap r 0 b 1 t u v) (h1:-(2 ^ 62) <= b) (h2:b < 2 ^ 62)
    (h:Q (.ref s.heap.objs.size) { s with heap:=s.heap.push { cls:=.type "range_iterator",data:=.fields #[rawInt (0 + (Builtin.Range.rangeSize 0 b 1 - 1) * 1),rawInt (Builtin.Range.rangeSize 0 b 1),rawInt (-1)] } }) :
    wpAny (model prog w) A (call (.type "reversed") [.ref r]) Q E s:=by
  refine callType_other (U := "range_iterator") (Q₁:=fun obj s₁=>obj=.ref s.heap.objs.size /\ s₁={ s with heap:=s.heap.push { cls:=.type "range_iterator",data:=.fields #[rawInt (0 + (Builtin.Range.rangeSize 0 b 1 - 1) * 1),rawInt (Builtin.Range.rangeSize 0 b 1),rawInt (-1)] } }) (by decide +kernel) F.create_reversed ⟨_,_,F.mro_reversed⟩ F.made_reversed rF (F.typeCall_reversed_1 _) (pM hr h1 h2 ⟨rfl,rfl⟩) ?_
  rintro obj s₁ ⟨rfl,rfl⟩
  exact⟨⟨_,Heap.get?_push_size _ rfl,rfl⟩,h⟩
end
noncomputable def Itd (lo:Int) (n:Nat):It:=⟨fun i _=>i < n,fun i H x H'=>H'=H /\ x=.int (lo - i),fun i _=>n <= i⟩
theorem uT {P:Program}{w:World}{K:Frag}{tg:Expr}(it:Addr) (lo:Int) (n:Nat):xQ P w K tg (Itd lo n) [it] it (fun i h=>IsRangeIter h it (lo + (i:Nat) * (-1)) ((n:Int) - (i:Nat)) (-1)) where
  mem:=by simp
  obj:=fun i h st b hb=>by
    have e:b=it:=by simpa using hb
    subst e
    exact⟨_,st,fun v z=>by
      have z':Data.fields _=Data.cell v:=z
      cases z'⟩
  keep:=fun i h h' st k=>k it (by simp) _ st
  item:=by
    intro X hP hw hK hc i pins s σ H E I hf st hg
    subst hP hw hK
    obtain⟨f0,f1,f2,f3,f4,f5⟩:=hf it (by simp)
    have W:=Walks.range (prog:=X.prog) (w:=X.w) (I.ok.hd hc) it lo (-1) n
    refine W.item i s _ _ hg st fun v h' tk hv st' kk=>?_
    obtain⟨t,rfl⟩:=hv
    have I1:Inv X pins σ H { s with heap:=h',toks:=tk }:=I.turned (fun b o hb e=>kk b o (by simpa using hb) e) f0 f1 f3 f4 f5
    refine⟨_,rfl,zG (s:={ s with heap:=h',toks:=tk }) (n := "range_iterator") st' rfl rfl (by decide) ⟨.int (lo - i),H,I1,⟨t,?_⟩,⟨rfl,rfl⟩,st',fun b hb=>(hf b hb).1⟩⟩
    rw [show lo + (i:Int) * -1=lo - i by omega]
  done:=by
    intro X hP hw hK hc i pins s σ H E I hf st hg
    subst hP hw hK
    obtain⟨f0,f1,f2,f3,f4,f5⟩:=hf it (by simp)
    exact wpAny_pyNext_range_end (I.ok.hd hc) st (by have:n <= i:=hg;omega) fun h' eb=>⟨rfl,I.turned (t':=s.toks) (fun b o hb e=>eb b o hb e) f0 f1 f3 f4 f5⟩
  self:=fun _ _ _ _ _ st h=>wpAny_pyIter_rangeiter st h
theorem uP:bootBuiltins "reversed" = some (.type "reversed"):=by decide +kernel
section
variable {X:Cx}{tg:Expr}
noncomputable def Z5e (ta:TA):TI:=fun σ H R=>ta σ H fun vs H1=>∃ j:Int,vs=[.int j] /\ -(2 ^ 62) <= j /\ j < 2 ^ 62 /\ R (Itd ((j.toNat:Int) - 1) j.toNat) H1
theorem Z3F {pins:List (Addr × Obj)}{σ:L2.St}{H:Hp}{s:Shared}{R:It->Hp->Prop}{E:Value->Shared->Prop}{hi:Int}{t u v:Tok}{tk:Nat}(I:Inv X pins σ H s) (h3:-(2 ^ 62) <= hi) (h4:hi < 2 ^ 62)
    (q:R (Itd ((hi.toNat:Int) - 1) hi.toNat) H):wpAny (model X.prog X.w) X.A (call (.type "reversed") [.ref s.heap.objs.size]) (fun v s1=>wpAny (model X.prog X.w) X.A (pyIter v) (PIE X pins σ tg R) E s1) E { s with heap:=s.heap.push { cls:=.type "range",data:=.fields #[.int 0 t,.int hi u,.int 1 v] },toks:=tk }:=by
  refine pN (IsRange.new ..) h3 h4 ?_
  have I1:Inv X pins σ H { s with heap:=s.heap.push { cls:=.type "range",data:=.fields #[.int 0 t,.int hi u,.int 1 v] },toks:=tk }:=I.kept fun b o e=>Heap.get?_push_of_some _ e
  have e2:((hi.toNat:Nat):Int)=Builtin.Range.rangeSize 0 hi 1:=by rw [rangeSize_one];split <;> omega
  have st0:IsRangeIter ((s.heap.push { cls:=.type "range",data:=.fields #[.int 0 t,.int hi u,.int 1 v] }).push { cls:=.type "range_iterator",data:=.fields #[rawInt (0 + (Builtin.Range.rangeSize 0 hi 1 - 1) * 1),rawInt (Builtin.Range.rangeSize 0 hi 1),rawInt (-1)] }) (s.heap.push { cls:=.type "range",data:=.fields #[.int 0 t,.int hi u,.int 1 v] }).objs.size (((hi.toNat:Int) - 1) + ((0:Nat):Int) * (-1)) (((hi.toNat:Nat):Int) - ((0:Nat):Int)) (-1):=by
    have e1:((hi.toNat:Int) - 1) + ((0:Nat):Int) * (-1)=0 + (Builtin.Range.rangeSize 0 hi 1 - 1) * 1:=by rw [<- e2];omega
    have e3:((hi.toNat:Nat):Int) - ((0:Nat):Int)=Builtin.Range.rangeSize 0 hi 1:=by rw [<- e2];omega
    rw [e1,e3]
    exact Heap.get?_push_size _ rfl
  refine wpAny_pyIter_rangeiter st0 ?_
  refine⟨(s.heap.push { cls:=.type "range",data:=.fields #[.int 0 t,.int hi u,.int 1 v] }).objs.size,[(s.heap.push { cls:=.type "range",data:=.fields #[.int 0 t,.int hi u,.int 1 v] }).objs.size],_,_,H,rfl,
    I1.kept (t':=tk) fun b o e=>Heap.get?_push_of_some _ e,uT _ ((hi.toNat:Int) - 1) hi.toNat,st0,fun b hb=>?_,q⟩
  have e:b=(s.heap.push { cls:=.type "range",data:=.fields #[.int 0 t,.int hi u,.int 1 v] }).objs.size:=by simpa using hb
  subst e
  exact I1.fpOk (Nat.le_refl _) (I1.hok.fresh (Nat.le_refl _))
theorem Z2q {a:Expr}{ta:TA}{p p2 pos pos2:Pos}(hg:Gl X "range") (hm:X.mg "range" = none) (hg2:Gl X "reversed") (hm2:X.mg "reversed" = none) (ha:PA X [a] ta) (hs:starEach [a] X.env=[(false,eval a X.env)]:=by rfl)
    (hs2:starEach [.Call (.Name "range" p2) [a] [] pos2] X.env=[(false,eval (.Call (.Name "range" p2) [a] [] pos2) X.env)]:=by rfl):PI X tg (.Call (.Name "reversed" p) [.Call (.Name "range" p2) [a] [] pos2] [] pos) (Z5e ta):=by
  intro pins s σ H R I h
  refine Call_ (kU I hg2 hm2 uP (PyProof.Rows.callWith_type1 (spliced_more (Call_ (kU I hg hm boot_range (PyProof.Rows.callWith_type1 (thn (ha pos2 pins s σ H _ I h) fun us s1 ⟨vs,H1,I1,r1,q1⟩=>?_) hs rfl))) hs2) hs2 rfl))
  obtain⟨j,e,q1,q2,q⟩:=q1
  subst e
  cases r1 with
  | cons r rr =>
    cases rr
    obtain⟨t,rfl⟩:=r
    exact call_range_1 (spliced_none (Z3F I1 q1 q2 q))
end
theorem tI {K:Frag}{H0:Hp}(lo:Int) (n:Nat):rE K (Itd lo n) H0 ((List.range n).map fun (k:Nat)=>.int (lo - (k:Int))) []:=fun H k i=>by
  refine⟨fun d hd=>?_,fun hl=>(show n <= i by simpa using hl)⟩
  rw [List.getElem?_map] at hd
  cases hdd:(List.range n)[i]? with
  | none=>rw [hdd] at hd;cases hd
  | some j =>
    rw [hdd] at hd
    cases hd
    obtain⟨hlt,e⟩:=List.getElem?_eq_some_iff.mp hdd
    rw [List.getElem_range] at e
    subst e
    refine⟨(show i < n by simpa using hlt),fun x H' y=>?_⟩
    obtain⟨rfl,rfl⟩:=y
    exact⟨Same.refl _,[],fS,fun b hb=>hb⟩
noncomputable def A6:List D->Option (List D)
  | [.int j]=>if -(2 ^ 62) <= j /\ j < 2 ^ 62 then some ((List.range j.toNat).map fun (k:Nat)=>.int (((j.toNat:Int) - 1) - (k:Int))) else none
  | _=>none
section
variable {X:Cx}{m1:Bool}{rs rs1:List Nat}{a:Expr}{fs:En->Option (List D)}{pos:Pos}
theorem Z2a {tg:Expr}{p p2 pos2:Pos}(hg:Gl X "range") (hm:X.mg "range" = none) (hg2:Gl X "reversed") (hm2:X.mg "reversed" = none) (ha:QA X m1 rs1 [a] fs) (hs:starEach [a] X.env=[(false,eval a X.env)]:=by rfl)
    (hs2:starEach [.Call (.Name "range" p2) [a] [] pos2] X.env=[(false,eval (.Call (.Name "range" p2) [a] [] pos2) X.env)]:=by rfl):QI X tg rs (.Call (.Name "reversed" p) [.Call (.Name "range" p2) [a] [] pos2] [] pos) (sB1 A6 fs) :=
  .mk (Z2q hg hm hg2 hm2 ha hs hs2) fun σ H R ⟨env,F,ds,ok,e,q⟩=>by
    unfold sB1 at e
    cases h1:fs env with
    | none=>simp only [h1] at e;cases e
    | some xs =>
      simp only [h1,Option.bind_some] at e
      unfold A6 at e
      split at e
      . rename_i j
        split at e
        . rename_i hj
          cases e
          refine⟨env,F,_,ok,h1,fun vs H' fp s r c=>?_⟩
          obtain⟨v,rfl,r1⟩:=jX r
          rw [bH r1]
          exact⟨j,rfl,hj.1,hj.2,q _ H' [] s (tI _ _) (fun b hb=>(by cases hb)) .nil⟩
        . cases e
      . cases e
end
theorem kA:∀ {a b:List Int},a.Perm b->a.Pairwise (· <= ·)->b.Pairwise (· <= ·)->a=b
  | [],b,p,_,_=>(List.nil_perm.mp p).symm
  | x :: a,[],p,_,_=>by have:=p.length_eq;simp at this
  | x :: a,y :: b,p,h1,h2=>by
    have hx:x ∈ y :: b:=p.mem_iff.mp List.mem_cons_self
    have hy:y ∈ x :: a:=p.mem_iff.mpr List.mem_cons_self
    have e1:y <= x:=by
      rcases List.mem_cons.mp hx with z | z
      . omega
      . exact (List.pairwise_cons.mp h2).1 x z
    have e2:x <= y:=by
      rcases List.mem_cons.mp hy with z | z
      . omega
      . exact (List.pairwise_cons.mp h1).1 y z
    have e:x=y:=by omega
    subst e
    rw [kA (List.Perm.cons_inv p) (List.pairwise_cons.mp h1).2 (List.pairwise_cons.mp h2).2]
noncomputable def E9 (x:Int):List Int->List Int
  | []=>[x]
  | y :: r=>if x <= y then x :: y :: r else y :: E9 x r
noncomputable def uB:List Int->List Int
  | []=>[]
  | x :: r=>E9 x (uB r)
theorem qE (x:Int):∀ r:List Int,(E9 x r).Perm (x :: r)
  | []=>.refl _
  | y :: r=>by
    unfold E9
    split
    . exact .refl _
    . exact ((qE x r).cons y).trans (.swap x y r)
theorem qW (x:Int):∀ r:List Int,r.Pairwise (· <= ·)->(E9 x r).Pairwise (· <= ·)
  | [],_=>by simp [E9]
  | y :: r,h=>by
    obtain⟨h1,h2⟩:=List.pairwise_cons.mp h
    unfold E9
    split
    . rename_i hxy
      refine List.pairwise_cons.mpr ⟨fun z hz=>?_,h⟩
      rcases List.mem_cons.mp hz with e | e
      . omega
      . have:=h1 z e;omega
    . rename_i hxy
      refine List.pairwise_cons.mpr ⟨fun z hz=>?_,qW x r h2⟩
      have hz':=(qE x r).mem_iff.mp hz
      rcases List.mem_cons.mp hz' with e | e
      . omega
      . exact h1 z e
theorem jP:∀ r:List Int,(uB r).Perm r
  | []=>.refl _
  | x :: r=>(qE x (uB r)).trans ((jP r).cons x)
theorem mS:∀ r:List Int,(uB r).Pairwise (· <= ·)
  | []=>.nil
  | x :: r=>qW x _ (mS r)
section
variable {X:Cx}{m m1:Bool}{rs rs1:List Nat}{a:Expr}{fa:En->Option D}{pos:Pos}
theorem nI {its:List Value}{ns:List Int}(h:IntsAre its ns):Vals (ns.map V.int) its:=by
  induction h with
  | nil=>exact .nil
  | cons n t h ih=>exact .cons ⟨t,rfl⟩ ih
theorem zY:bootBuiltins "sorted" = some (.builtin "sorted"):=by decide +kernel
end
noncomputable def un2 {α:Type}(f:En->Option α):En->Option α
  | some (_,.tup [a,b]) :: r=>f (some (false,a) :: some (false,b) :: r)
  | _=>none
theorem P7 {α:Type}{f:En->Option α}{b:Bool}{d:D}{env:En}(h:un2 f (some (b,d) :: env) ≠ none):∃ d1 d2,d=.tup [d1,d2]:=by
  unfold un2 at h
  split at h
  . rename_i e;cases e;exact⟨_,_,rfl⟩
  . exact absurd rfl h
theorem wE {α:Type}{f:En->Option α}{b:Bool}{d1 d2:D}{env:En}:un2 f (some (b,.tup [d1,d2]) :: env)=f (some (false,d1) :: some (false,d2) :: env):=rfl
theorem Z3G {K:Frag}{st:Bool}{H:Hp}{d1 d2:D}{vs:List V}{fp:List Addr}(h:Reps K st H [d1,d2] vs fp):∃ v1 v2,vs=[v1,v2] /\ (∃ f,Rep K st H d1 v1 f) /\ ∃ f,Rep K st H d2 v2 f:=by
  simp only [Reps] at h
  obtain⟨v,us,f1,f2,rfl,rfl,r1,v',us',f1',f2',rfl,rfl,r2,rfl,rfl⟩:=h
  exact⟨_,_,rfl,⟨_,r1⟩,⟨_,r2⟩⟩
theorem W9 {K:Frag}{H:Hp}{σ:L2.St}{env:En}{F:Nat->List Addr}{fr:List Nat}{d1 d2:D}{v1 v2:V}{f1 f2:List Addr}(ok:EnvOk K H σ env F) (r1:Rep K false H d1 v1 f1) (r2:Rep K false H d2 v2 f2) :
    ∃ F',EnvOk K H (((hG 2 fr σ).set 0 (some v1)).set 1 (some v2)) (some (false,d1) :: some (false,d2) :: iF fr env) F':=by
  refine⟨fun i=>match i with | 0=>f1 | 1=>f2 | i + 2=>F (fr.getD i 0),fun i o d' e=>?_⟩
  match i,e with
  | 0,e =>
    simp at e
    obtain⟨_,rfl⟩:=e
    exact⟨v1,by simp [hG],r1⟩
  | 1,e =>
    simp at e
    obtain⟨_,rfl⟩:=e
    exact⟨v2,by simp [hG],r2⟩
  | i + 2,e =>
    simp only [List.getElem?_cons_succ,iF,List.getElem?_map] at e
    cases hj:fr[i]? with
    | none=>rw [hj] at e;cases e
    | some j =>
      rw [hj] at e
      simp only [Option.map_some,Option.some.injEq] at e
      cases hq:env[j]? with
      | none=>rw [hq] at e;cases e
      | some s =>
        rw [hq] at e
        simp only [Option.join_some] at e
        subst e
        obtain⟨w,h1,h2⟩:=ok j o d' hq
        refine⟨w,?_,?_⟩
        . simp [hG,hj,h1]
        . have:fr.getD i 0=j:=by simp [List.getD,hj]
          simp only [this]
          exact h2
section
variable {X:Cx}{m m' m1 m2:Bool}{rs rs' rs1 rs2:List Nat}{elt iter:Expr}{ifs:List Expr}{scope:Scope}{pos px:Pos}{x:Str}{fr:List Nat}{src:En->Option (List D)}{fc:En->Option Bool}{fe:En->Option D}
theorem K1 {K:Frag}{σ:L2.St}{H:Hp}{Q:VK}(h:tD K true [] (bZ fr src (un2 fc) (un2 fe)) σ H Q) :
    yF (tDI K rs src) 2 fr (Z5i K 2 (xF [0,1])) (tDT K fc) (tD K true [] fe) σ H Q:=by
  obtain⟨env,F,d,ok,e,q⟩:=h
  unfold bZ at e
  cases h1:src env with
  | none=>rw [h1] at e;cases e
  | some ds =>
    rw [h1] at e
    simp only at e
    split at e
    . rename_i hlen
      cases h2:cR (un2 fc) (un2 fe) (iF fr env) ds with
      | none=>rw [h2] at e;cases e
      | some ys =>
        rw [h2] at e
        cases e
        refine⟨env,F,ds,ok,h1,fun J H1 fp s1 gv dm cd=>?_⟩
        intro acc hacc
        refine⟨fun i k vs H2=>i <= ds.length /\ k=ds.length - i /\ H2 acc=some (.lst vs) /\ Same H1 H2 /\ ∃ zs f,cR (un2 fc) (un2 fe) (iF fr env) (ds.take i)=some zs /\ Reps K true H2 zs vs f /\ f.Nodup /\ (∀ b ∈ f,H1 b=none) /\ acc ∉ f,
          ⟨ds.length,Nat.zero_le _,rfl,aY,bM hacc,[],[],by simp [cR],by simp only [Reps];exact⟨trivial,trivial⟩,List.nodup_nil,fun b hb=>(by cases hb),by simp⟩,?_⟩
        rintro i k vs H2 ⟨hi,hk,ha,sm,zs,f,hz,hr,nd,hfr,hna⟩
        refine⟨ha,?_⟩
        have gi:=gv H2 (Kp.same sm fp) i
        by_cases hlt:i < ds.length
        . right
          have hd:ds[i]? = some ds[i]:=List.getElem?_eq_getElem hlt
          obtain⟨go,hy⟩:=gi.1 _ hd
          refine⟨go,fun x H3 y3=>?_⟩
          obtain⟨sm3,f3,r3,_⟩:=hy x H3 y3
          have ok3:EnvOk K H3 σ env F:=ok.same ((s1.trans sm).trans sm3)
          have hst:=kH hd h2 hz
          have hne:un2 fc (some (false,ds[i]) :: iF fr env) ≠ none:=by
            rcases hst with ⟨c1,_⟩ | ⟨c1,_⟩ <;> (rw [c1];intro z;cases z)
          obtain⟨d1,d2,hdd⟩:=P7 hne
          rw [hdd] at r3 hst
          simp only [Rep] at r3
          obtain⟨pt,wt,rfl,hsq,hrt⟩:=r3
          obtain⟨v1,v2,rfl,⟨f1,r31⟩,⟨f2,r32⟩⟩:=Z3G hrt
          refine⟨pt,[v1,v2],rfl,hsq,rfl,v1,[v2],rfl,v2,[],rfl,rfl,⟨by simp [hG],by simp [hG]⟩,?_⟩
          obtain⟨F',okin⟩:=W9 (fr:=fr) ok3 r31 r32
          rcases hst with ⟨c1,y',c2,c3⟩ | ⟨c1,c2⟩
          . refine⟨_,F',true,okin,c1,fun H4 s4=>E6 ⟨_,F',y',okin.same s4,c2,fun v H5 fp5 s5 r5 c5=>?_⟩⟩
            have s25:Same H2 H5:=(sm3.trans s4).trans s5
            have s35:Same H4 H5:=s5
            have ha5:H5 acc=some (.lst vs):=s25 _ _ ha
            have hna5:acc ∉ fp5:=fun z=>by
              have:=(c5.2 rfl).2 acc z
              rw [(sm3.trans s4) _ _ ha] at this
              cases this
            have lv:vs.length < 1000:=by
              have:=lO hz
              have h4:=hr.length
              rw [List.length_take] at this
              omega
            refine⟨vs,ha5,eJ (Nat.le_of_lt lv),ds.length - (i + 1),by omega,hlt,rfl,aY,?_,zs ++ [y'],f ++ fp5,c3,?_,?_,?_,?_⟩
            . intro b o hb
              have hba:b ≠ acc:=bI hb hacc
              rw [aX hba]
              exact s25 _ _ (sm _ _ hb)
            . have e1:=Reps.keep _ _ _ (Kp.upd (o':=.lst (vs ++ [v])) ha5 (by intro xs z;cases z) (by intro a b z;cases z) hna) (hr.same s25)
              have e2:=Rep.keep _ _ _ (Kp.upd (o':=.lst (vs ++ [v])) ha5 (by intro xs z;cases z) (by intro a b z;cases z) hna5) r5
              exact e1.snoc e2
            . refine List.nodup_append.mpr ⟨nd,(c5.2 rfl).1,fun a ha' b hb z=>?_⟩
              obtain⟨o,ho⟩:=Reps.dom _ _ _ hr a ha'
              have:=(c5.2 rfl).2 b hb
              rw [<- z,(sm3.trans s4) _ _ ho] at this
              cases this
            . intro b hb
              rcases List.mem_append.mp hb with z | z
              . exact hfr b z
              . exact ((sm.trans sm3).trans s4).free ((c5.2 rfl).2 b z)
            . intro z
              rcases List.mem_append.mp z with z | z
              . exact hna z
              . exact hna5 z
          . refine⟨_,F',false,okin,c1,fun H4 s4=>E7 ⟨ds.length - (i + 1),vs,by omega,hlt,rfl,(sm3.trans s4) _ _ ha,(sm.trans sm3).trans s4,zs,f,c2,hr.same (sm3.trans s4),nd,hfr,hna⟩⟩
        . left
          have hi':i=ds.length:=by omega
          refine⟨gi.2 (by omega),?_⟩
          have hz':cR (un2 fc) (un2 fe) (iF fr env) ds=some zs:=by rw [hi',List.take_length] at hz;exact hz
          rw [h2] at hz'
          cases hz'
          refine q _ H2 (acc :: f) (s1.trans sm) ?_ ⟨fun b hb=>?_,fun _=>⟨List.nodup_cons.mpr ⟨hna,nd⟩,fun b hb=>?_⟩⟩
          . simp only [Rep]
            exact⟨acc,vs,f,rfl,hr,.inl ⟨rfl,ha⟩⟩
          . rcases List.mem_cons.mp hb with z | z
            . exact .inl (by rw [z];exact s1.free hacc)
            . exact .inl (s1.free (hfr b z))
          . rcases List.mem_cons.mp hb with z | z
            . rw [z];exact s1.free hacc
            . exact s1.free (hfr b z)
    . cases e
theorem yQ {y:Str}{k:Nat}{py pt:Pos}(hc:X.calm=true) (chk:gR X.env.scope X.N scope fr=true) (hi:QI X (.Tuple [.Name x px,.Name y py] k pt) rs iter src)
    (hnd:(eI [x,y] fr X.N).Nodup) (hx:scope.names.lookup x=some .local) (hy:scope.names.lookup y=some .local)
    (ht:∀ cl C s0 H0 ex pins,QTs (eQ X (eI [x,y] fr X.N) scope cl C s0 H0 ex pins) ifs fc)
    (he:∀ cl C s0 H0 ex pins,QE (eQ X (eI [x,y] fr X.N) scope cl C s0 H0 ex pins) true [] elt fe)
    (hs:∀ x,foldedSetIterable iter X.env x=pure x:=by intro _;rfl) :
    QE X true [] (.ListComp elt [⟨.Tuple [.Name x px,.Name y py] k pt,iter,ifs,0⟩] scope pos) (bZ fr src (un2 fc) (un2 fe)) :=
  .mk (M8 (tgs:=[x,y]) (tt:=tDT X.K fc) (te:=tD X.K true [] fe) hc chk hi (fun cl C s0 H0 ex pins=>Z0D (X:=eQ X (eI [x,y] fr X.N) scope cl C s0 H0 ex pins) hc (gL (fN (i:=0) hnd rfl (.inl (lookup_relabel_local hx)) (.inr (lookup_relabel_local hx))) (gL (fN (i:=1) hnd rfl (.inl (lookup_relabel_local hy)) (.inr (lookup_relabel_local hy))) rP))) ht he hs) fun σ H Q h=>K1 h
variable {i:Nat}{pos':Pos}
end
section
variable {X:Cx}{m m' m1 m2:Bool}{rs rs' rs1 rs2:List Nat}{e:Expr}{f:En->Option D}{pos p pos':Pos}{i:Nat}{x:Str}
end
section
variable {X:Cx}{m m1:Bool}{rs rs1:List Nat}{a:Expr}{fa:En->Option D}
noncomputable def Z25:V->List V->Hp->VK->Prop:=fun x vs H Q=>∃ i:Int,x=.int i /\ vs=[] /\ Q (.int ((Builtin.Int.intBits i:Nat):Int)) H
theorem V0:MtR X "int.bit_length" Z25:=by
  intro pins s σ H x vs v us Q I rx rv h
  obtain⟨i,rfl,rfl,q⟩:=h
  obtain⟨t,rfl⟩:=rx
  cases rv
  exact call_int_bit_length ⟨.int ((Builtin.Int.intBits i:Nat):Int),H,I.tok _,⟨_,rfl⟩,q⟩
noncomputable def zQ (fa:En->Option D):En->Option D:=fun env=>match fa env with
  | some (.int i)=>some (.int ((Builtin.Int.intBits i:Nat):Int))
  | _=>none
theorem Z2g {apos cpos:Pos}(ha:QE X m1 rs1 a fa) (hbase:attributeBase a "bit_length" X.env (eval a X.env)=eval a X.env:=by rfl) (hline:(apos.endLine == cpos.line)=true:=by rfl) :
    QE X m rs (.Call (.Attribute a "bit_length" apos) [] [] cpos) (zQ fa) :=
  .mk (Z3Y PySem.F.plainAttrs_int slot_int_bit_length type_int_bit_length V0 ha hbase hline) fun σ H Q ⟨env,F,d,ok,e,q⟩=>by
    unfold zQ at e
    split at e
    . rename_i i h1
      cases e
      refine⟨env,F,_,ok,h1,fun v H' fp s r c=>?_⟩
      rw [bH r]
      exact⟨rfl,i,rfl,rfl,q _ H' [] s fS .nil⟩
    . cases e
end
section
variable {X:Cx}
variable {m m1:Bool}{rs rs1:List Nat}{a:Expr}{fs:En->Option (List D)}
end
section
variable {X:Cx}{pins:List (Addr × Obj)}{σ:L2.St}{H:Hp}{s:Shared}
end
section
variable {X:Cx}{m m' m1 m2:Bool}{rs rs' rs1 rs2:List Nat}{e a b c:Expr}{fa fb:En->Option D}{pos:Pos}
end
section
variable {X:Cx}{m1 m2:Bool}{rs1 rs2:List Nat}{e k:Expr}{f fk:En->Option D}{pos p p2 p3:Pos}{i:Nat}{x:Str}
end
section
variable {X:Cx}{m1 m2 m3:Bool}{rs1 rs2 rs3:List Nat}{e k l:Expr}{f fk fl:En->Option D}{pos p p3 spos:Pos}{i:Nat}{x:Str}
end
section
variable {X:Cx}{m m1 m2 m3:Bool}{rs rs1 rs2 rs3:List Nat}{a b c:Expr}{fa fb fc:En->Option D}{pos:Pos}{op op':CmpOp}{p p':Int->Int->Bool}
end
end PD
namespace L2
open PySem PySem.Spec PyProof.Rows
noncomputable def Itz (K:Frag) (a b:Addr):It :=
  ⟨fun i H => ∃ xs ys x y, SqL K H a xs /\ SqL K H b ys /\ xs[i]? = some x /\ ys[i]? = some y,
   fun i H v H'=>∃ p x y,H p=none /\ v=.ref p /\ (∀ xs,SqL K H a xs->xs[i]? = some x) /\ (∀ ys,SqL K H b ys->ys[i]? = some y) /\ H'=upd H p (.tup [x,y]),
   fun i H=>∃ xs ys,SqL K H a xs /\ SqL K H b ys /\ (xs.length <= i \/ ys.length <= i)⟩
theorem Z01 {P:Program}{w:World}{K:Frag}{elts:List Expr}{k1:Nat}{pos:Pos}(a b z TI TO i1 i2:Addr) (D:ZipApart z TI TO i1 i2 a b) :
    xQ P w K (.Tuple elts k1 pos) (Itz K a b) [z,TI,TO,i1,i2] z (fun i h=>IsZip h z TI TO .none /\ IsPair h TI (.ref i1) (.ref i2) /\ (∃ u v,IsPair h TO u v) /\ h.IsListIter i1 a i /\ h.IsListIter i2 b i) where
  mem:=by simp
  obj:=fun i h st c hc=>by
    obtain⟨hz,hT,⟨u,v,hO⟩,h1,h2⟩:=st
    simp only [List.mem_cons,List.not_mem_nil,or_false] at hc
    rcases hc with hc | hc | hc | hc | hc
    . rw [hc];exact⟨_,hz,fun v q=>by cases q⟩
    . rw [hc];exact⟨_,hT,fun v q=>by cases q⟩
    . rw [hc];exact⟨_,hO,fun v q=>by cases q⟩
    . rw [hc];obtain⟨o,e,c,d⟩:=h1;exact⟨o,e,fun v q=>by rw [d] at q;cases q⟩
    . rw [hc];obtain⟨o,e,c,d⟩:=h2;exact⟨o,e,fun v q=>by rw [d] at q;cases q⟩
  keep:=fun i h h' ⟨hz,hT,⟨u,v,hO⟩,h1,h2⟩ k=>⟨k z (by simp) _ hz,k TI (by simp) _ hT,⟨u,v,k TO (by simp) _ hO⟩,h1.at fun o q=>k i1 (by simp) o q,h2.at fun o q=>k i2 (by simp) o q⟩
  item:=by
    intro X hP hw hK hc i pins s σ H E I hf st hg
    subst hP hw hK
    obtain⟨xs,ys,x,y,hqa,hqb,hx,hy⟩:=hg
    obtain⟨its,rv,p,hsz⟩:=I.list hqa
    obtain⟨its2,rv2,p2,hsz2⟩:=I.list hqb
    obtain⟨u,hu,ru⟩:=rv.get hx
    obtain⟨u2,hu2,ru2⟩:=rv2.get hy
    obtain⟨hz,hT,⟨ua,va,hO⟩,h1,h2⟩:=st
    have fz:=hf z (by simp)
    have fO:=hf TO (by simp)
    have f1:=hf i1 (by simp)
    have f2:=hf i2 (by simp)
    refine wpAny_pyNext_zip_item D hz hT hO h1 h2 p.isList p2.isList (x:=u) (y:=u2) (by simpa using hu) (by simpa using hu2) fun h' a1 a2 a3 a4 a5 a6 hk=>?_
    refine⟨_,rfl,wpAny_letOwnedTupleGo_zip (s:={ s with heap:=h' }) a1 fun h'' hz'' hs''=>?_⟩
    have hfr:H s.heap.objs.size=none:=I.fresh
    have lt:∀ b o,s.heap.get? b=some o->b ≠ s.heap.objs.size:=fun b o q=>Nat.ne_of_lt (Heap.lt_size q)
    have kp:∀ b o,b ≠ z->b ≠ TO->b ≠ i1->b ≠ i2->s.heap.get? b=some o->h''.get? b=some o:=fun b o c1 c2 c3 c4 q=>(hs''.2 b c1).trans (hk b o c1 c2 c3 c4 q)
    have hzz:z ≠ s.heap.objs.size:=lt _ _ hz
    have nch:∀ b u,H b=some u->b ≠ z /\ b ≠ TO /\ b ≠ i1 /\ b ≠ i2:=fun b u q=>⟨fun w=>(by rw [w,fz.1] at q;cases q),fun w=>(by rw [w,fO.1] at q;cases q),fun w=>(by rw [w,f1.1] at q;cases q),fun w=>(by rw [w,f2.1] at q;cases q)⟩
    have hin:∀ c,c ∉ [z,TO,i1,i2]->c ≠ z /\ c ≠ TO /\ c ≠ i1 /\ c ≠ i2:=fun c hc=>by simpa using hc
    refine⟨.ref s.heap.objs.size,upd H s.heap.objs.size (.tup [x,y]),?_,rfl,⟨_,x,y,hfr,rfl,fun zs hzs=>by rw [I.list_inj hzs hqa];exact hx,fun zs hzs=>by rw [I.list_inj hzs hqb];exact hy,rfl⟩,
      ⟨hz'',(hs''.2 _ D.TIz).trans (hk _ _ D.TIz D.TITO D.TIi1 D.TIi2 hT),⟨_,_,(hs''.2 _ D.TOz).trans a2⟩,a3.at fun o q=>(hs''.2 i1 D.i1z).trans q,a4.at fun o q=>(hs''.2 i2 D.i2z).trans q⟩,fun c hc=>?_⟩
    . refine Inv.step (s:=s) (h':=h'') (t':=s.toks) (H':=upd H s.heap.objs.size (.tup [x,y])) (g':=s.gens) (d':=s.drawn) (ch:=[z,TO,i1,i2]) I (fun c hc=>?_)
        (fun c o _ _ hc q _=>let ⟨c1,c2,c3,c4⟩:=hin c hc;kp c o c1 c2 c3 c4 q) (fun c o _ _ hc q _=>let ⟨c1,c2,c3,c4⟩:=hin c hc;⟨o.slots,kp c o c1 c2 c3 c4 q⟩)
        (fun c o _ q n=>by rw [aX (lt c o q)];exact n) (fun c o hc q=>let ⟨c1,c2,c3,c4⟩:=hin c hc;⟨o,kp c o c1 c2 c3 c4 q⟩)
        (fun c ys q=>by rw [aX (bI q hfr)];exact q) (fun c o u q=>by rw [aX (bI q hfr)];exact q) (fun c ps q=>⟨#[],by rw [aX (bI q hfr),q];simp⟩) (fun m hm=>?_) (fun c u q=>?_) I.bare
      . simp only [List.mem_cons,List.not_mem_nil,or_false] at hc
        rcases hc with hc | hc | hc | hc
        . rw [hc];exact⟨fz.2.2.2.1,fz.2.1,fz.2.2.2.2.1,fz.2.2.2.2.2⟩
        . rw [hc];exact⟨fO.2.2.2.1,fO.2.1,fO.2.2.2.2.1,fO.2.2.2.2.2⟩
        . rw [hc];exact⟨f1.2.2.2.1,f1.2.1,f1.2.2.2.2.1,f1.2.2.2.2.2⟩
        . rw [hc];exact⟨f2.2.2.2.1,f2.2.1,f2.2.2.2.2.1,f2.2.2.2.2.2⟩
      . obtain⟨o,es,ep,ho,r⟩:=hm
        exact⟨o,es,ep,kp _ o (Ne.symm fz.2.1) (Ne.symm fO.2.1) (Ne.symm f1.2.1) (Ne.symm f2.2.1) ho,r⟩
      . by_cases hb:c=s.heap.objs.size
        . subst hb
          rw [aY] at q;cases q
          refine⟨by show 2 <= sizeLine;decide,[u,u2],.cons ru (.cons ru2 .nil),_,(hs''.2 _ (Ne.symm hzz)).trans a5,rfl,_,rfl⟩
        . rw [aX hb] at q
          refine (I.hok c u q).stay (fun d v hc z=>?_) (fun c z=>by rw [aX (bI z hfr)];exact z) fun c ys z=>by rw [aX (bI z hfr)];exact z
          rcases hc with y | y
          . rw [y] at z ⊢;obtain⟨c1,c2,c3,c4⟩:=nch c u q;exact kp _ _ c1 c2 c3 c4 z
          . obtain⟨c1,c2,c3,c4⟩:=nch d _ y;exact kp _ _ c1 c2 c3 c4 z
    . have hb':c < s.heap.objs.size:=by
        simp only [List.mem_cons,List.not_mem_nil,or_false] at hc
        rcases hc with hc | hc | hc | hc | hc
        . rw [hc];exact Heap.lt_size hz
        . rw [hc];exact Heap.lt_size hT
        . rw [hc];exact Heap.lt_size hO
        . rw [hc];obtain⟨o,q,_⟩:=h1;exact Heap.lt_size q
        . rw [hc];obtain⟨o,q,_⟩:=h2;exact Heap.lt_size q
      rw [aX (Nat.ne_of_lt hb')]
      exact (hf c hc).1
  done:=by
    intro X hP hw hK hc i pins s σ H E I hf st hg
    subst hP hw hK
    obtain⟨xs,ys,hqa,hqb,hx⟩:=hg
    obtain⟨its,rv,p,hsz⟩:=I.list hqa
    obtain⟨its2,rv2,p2,hsz2⟩:=I.list hqb
    obtain⟨hz,hT,⟨ua,va,hO⟩,h1,h2⟩:=st
    have hl:=rv.length
    have hl2:=rv2.length
    have fz:=hf z (by simp)
    have fO:=hf TO (by simp)
    have f1:=hf i1 (by simp)
    have f2:=hf i2 (by simp)
    have hend:its.toArray[i]? = none \/ its2.toArray[i]? = none:=by
      rcases hx with z | z
      . left;simp;omega
      . right;simp;omega
    have hin:∀ c,c ∉ [z,TO,i1,i2]->c ≠ z /\ c ≠ TO /\ c ≠ i1 /\ c ≠ i2:=fun c hc=>by simpa using hc
    have nch:∀ b u,H b=some u->b ≠ z /\ b ≠ TO /\ b ≠ i1 /\ b ≠ i2:=fun b u q=>⟨fun w=>(by rw [w,fz.1] at q;cases q),fun w=>(by rw [w,fO.1] at q;cases q),fun w=>(by rw [w,f1.1] at q;cases q),fun w=>(by rw [w,f2.1] at q;cases q)⟩
    refine wpAny_pyNext_zip_end (I.ok.hd hc) D hz hT hO h1 h2 p.isList p2.isList hend fun h' hk=>⟨rfl,?_⟩
    refine Inv.step (s:=s) (h':=h') (t':=s.toks) (H':=H) (g':=s.gens) (d':=s.drawn) (ch:=[z,TO,i1,i2]) I (fun c hc=>?_)
      (fun c o _ _ hc q _=>let ⟨c1,c2,c3,c4⟩:=hin c hc;hk c o c1 c2 c3 c4 q) (fun c o _ _ hc q _=>let ⟨c1,c2,c3,c4⟩:=hin c hc;⟨o.slots,hk c o c1 c2 c3 c4 q⟩)
      (fun c o _ q n=>n) (fun c o hc q=>let ⟨c1,c2,c3,c4⟩:=hin c hc;⟨o,hk c o c1 c2 c3 c4 q⟩)
      (fun c ys q=>q) (fun c o u q=>q) (fun c ps q=>⟨#[],by rw [q];simp⟩) (fun m hm=>?_) (fun c u q=>?_) I.bare
    . simp only [List.mem_cons,List.not_mem_nil,or_false] at hc
      rcases hc with hc | hc | hc | hc
      . rw [hc];exact⟨fz.2.2.2.1,fz.2.1,fz.2.2.2.2.1,fz.2.2.2.2.2⟩
      . rw [hc];exact⟨fO.2.2.2.1,fO.2.1,fO.2.2.2.2.1,fO.2.2.2.2.2⟩
      . rw [hc];exact⟨f1.2.2.2.1,f1.2.1,f1.2.2.2.2.1,f1.2.2.2.2.2⟩
      . rw [hc];exact⟨f2.2.2.2.1,f2.2.1,f2.2.2.2.2.1,f2.2.2.2.2.2⟩
    . obtain⟨o,es,ep,ho,r⟩:=hm
      exact⟨o,es,ep,hk _ o (Ne.symm fz.2.1) (Ne.symm fO.2.1) (Ne.symm f1.2.1) (Ne.symm f2.2.1) ho,r⟩
    . refine (I.hok c u q).stay (fun d v hc z=>?_) (fun c z=>z) fun c ys z=>z
      rcases hc with y | y
      . rw [y] at z ⊢;obtain⟨c1,c2,c3,c4⟩:=nch c u q;exact hk _ _ c1 c2 c3 c4 z
      . obtain⟨c1,c2,c3,c4⟩:=nch d _ y;exact hk _ _ c1 c2 c3 c4 z
  self:=fun _ _ _ _ _ st h=>wpAny_pyIter_zip st.1 h
theorem Z1C:bootBuiltins "zip" = some (.type "zip"):=by decide +kernel
section
variable {X:Cx}{elts:List Expr}{k1:Nat}{tpos:Pos}
noncomputable def Z5M (K:Frag) (ta:TA):TI:=fun σ H R=>ta σ H fun vs H1=>∃ a b,vs=[.ref a,.ref b] /\ (∃ xs,SqL K H1 a xs) /\ (∃ ys,SqL K H1 b ys) /\ R (Itz K a b) H1
theorem Z3R {l l2:Expr}{ta:TA}{p pos:Pos}(hg:Gl X "zip") (hm:X.mg "zip" = none) (ha:PA X [l,l2] ta) (hs:starEach [l,l2] X.env=[(false,eval l X.env),(false,eval l2 X.env)]:=by rfl) (hs2:starEach [l2] X.env=[(false,eval l2 X.env)]:=by rfl) :
    PI X (.Tuple elts k1 tpos) (.Call (.Name "zip" p) [l,l2] [] pos) (Z5M X.K ta):=by
  intro pins s σ H R I h
  refine Call_ (kU I hg hm Z1C (PyProof.Rows.callWith_type1 (thn (ha pos pins s σ H _ I h) fun us s1 ⟨vs,H1,I1,r1,q1⟩=>?_) (by rw [hs,hs2]) (by rw [hs2];rfl)))
  obtain⟨a,b,rfl,⟨xs,hqa⟩,⟨ys,hqb⟩,q⟩:=q1
  cases r1 with
  | cons r rr =>
    cases rr with
    | cons r' rr =>
      cases rr
      cases r
      cases r'
      obtain⟨its,rv,pl,hz⟩:=I1.list hqa
      obtain⟨its2,rv2,pl2,hz2⟩:=I1.list hqb
      have la:a < s1.heap.objs.size:=by obtain⟨o,e,_⟩:=pl.isList;exact Heap.lt_size e
      have lb:b < s1.heap.objs.size:=by obtain⟨o,e,_⟩:=pl2.isList;exact Heap.lt_size e
      refine call_zip_2 pl.isList pl2.isList fun h' hzp hTI hTO hi1 hi2 hsz hk=>?_
      refine wpAny_pyIter_zip (s:={ s1 with heap:=h' }) hzp ?_
      have I2:Inv X pins σ H1 { s1 with heap:=h' }:=I1.kept (t':=s1.toks) hk
      refine⟨s1.heap.objs.size + 4,[s1.heap.objs.size + 4,s1.heap.objs.size + 2,s1.heap.objs.size + 3,s1.heap.objs.size,s1.heap.objs.size + 1],_,_,H1,rfl,I2,Z01 a b _ _ _ _ _ (zipApart_new la lb),⟨hzp,hTI,⟨_,_,hTO⟩,hi1,hi2⟩,fun c hc=>?_,q⟩
      have hb':s1.heap.objs.size <= c:=by
        simp only [List.mem_cons,List.not_mem_nil,or_false] at hc
        rcases hc with hc | hc | hc | hc | hc <;> (rw [hc];first | exact Nat.le_refl _ | exact Nat.le_add_right _ _)
      exact I1.fpOk hb' (I1.hok.fresh hb')
end
theorem nZ {i j:Int}:Builtin.Range.rangeSize i j (-1)=if j < i then i - j else 0:=by
  unfold Builtin.Range.rangeSize
  split <;> split <;> simp_all <;> omega
theorem Q9 {i j:Int}(h1:-(2 ^ 62) <= i) (h2:i < 2 ^ 62) (h3:-(2 ^ 62) <= j) (h4:j < 2 ^ 62):Builtin.Range.small i j (-1)=true:=by
  have e:=@nZ i j
  unfold Builtin.Range.small
  rw [e]
  clear e
  simp only [Builtin.Range.rangeFitsLong,Bool.and_eq_true,decide_eq_true_eq]
  split <;> (refine⟨?_,?_⟩ <;> simp <;> omega)
end L2
namespace PD
open PySem PySem.Spec PyProof.Rows L2
section
variable {X:Cx}{tg:Expr}
noncomputable def Z5b (ta:TA):TI:=fun σ H R=>ta σ H fun vs H1=>∃ i j:Int,vs=[.int i,.int j,.int (-1)] /\ (-(2 ^ 62) <= i /\ i < 2 ^ 62 /\ -(2 ^ 62) <= j /\ j < 2 ^ 62) /\ R (Itd i (i - j).toNat) H1
theorem Z32 {pins:List (Addr × Obj)}{σ:L2.St}{H:Hp}{s:Shared}{R:It->Hp->Prop}{E:Value->Shared->Prop}{lo hi:Int}{t u v:Tok}{tk:Nat}(I:Inv X pins σ H s) (h1:-(2 ^ 62) <= lo) (h2:lo < 2 ^ 62) (h3:-(2 ^ 62) <= hi) (h4:hi < 2 ^ 62)
    (q:R (Itd lo (lo - hi).toNat) H):wpAny (model X.prog X.w) X.A (pyIter (.ref s.heap.objs.size)) (PIE X pins σ tg R) E { s with heap:=s.heap.push { cls:=.type "range",data:=.fields #[.int lo t,.int hi u,.int (-1) v] },toks:=tk }:=by
  refine wpAny_pyIter_range (IsRange.new ..) (Q9 h1 h2 h3 h4) ?_
  have I1:Inv X pins σ H { s with heap:=s.heap.push { cls:=.type "range",data:=.fields #[.int lo t,.int hi u,.int (-1) v] },toks:=tk }:=I.kept fun b o e=>Heap.get?_push_of_some _ e
  refine⟨(s.heap.push { cls:=.type "range",data:=.fields #[.int lo t,.int hi u,.int (-1) v] }).objs.size,[(s.heap.push { cls:=.type "range",data:=.fields #[.int lo t,.int hi u,.int (-1) v] }).objs.size],_,_,H,rfl,
    I1.kept (t':=tk) fun b o e=>Heap.get?_push_of_some _ e,uT _ lo (lo - hi).toNat,?_,fun b hb=>?_,q⟩
  . have e1:lo + ((0:Nat):Int) * (-1)=lo:=by simp
    have e2:(((lo - hi).toNat:Nat):Int) - ((0:Nat):Int)=Builtin.Range.rangeSize lo hi (-1):=by rw [nZ];split <;> omega
    show IsRangeIter _ _ (lo + ((0:Nat):Int) * (-1)) ((((lo - hi).toNat:Nat):Int) - ((0:Nat):Int)) (-1)
    rw [e1,e2]
    exact Heap.get?_push_size _ rfl
  . have e:b=(s.heap.push { cls:=.type "range",data:=.fields #[.int lo t,.int hi u,.int (-1) v] }).objs.size:=by simpa using hb
    subst e
    exact I1.fpOk (Nat.le_refl _) (I1.hok.fresh (Nat.le_refl _))
theorem T4 {a b c:Expr}{ta:TA}{p pos:Pos}(hg:Gl X "range") (hm:X.mg "range" = none) (ha:PA X [a,b,c] ta) (hs:starEach [a,b,c] X.env=(false,eval a X.env) :: starEach [b,c] X.env:=by rfl) (hs2:(backTo pos (starEach [b,c] X.env)).any (·.1)=false:=by rfl) :
    PI X tg (.Call (.Name "range" p) [a,b,c] [] pos) (Z5b ta):=by
  intro pins s σ H R I h
  refine Call_ (kU I hg hm boot_range (PyProof.Rows.callWith_type1 (thn (ha pos pins s σ H _ I h) fun us s1 ⟨vs,H1,I1,r1,q1⟩=>?_) hs hs2))
  obtain⟨i,j,e,⟨q1,q2,q3,q4⟩,q⟩:=q1
  subst e
  cases r1 with
  | cons r rr =>
    cases rr with
    | cons r' rr =>
      cases rr with
      | cons r'' rr =>
        cases rr
        obtain⟨t,rfl⟩:=r
        obtain⟨t',rfl⟩:=r'
        obtain⟨t'',rfl⟩:=r''
        exact call_range_3 (by decide) (Z32 I1 q1 q2 q3 q4 q) (Or.inl (PyProof.noPylong_small (by omega)))
end
noncomputable def A4:List D->Option (List D)
  | [.int i,.int j,.int k]=>if (-(2 ^ 62) <= i /\ i < 2 ^ 62 /\ -(2 ^ 62) <= j /\ j < 2 ^ 62) /\ k = -1 then some ((List.range (i - j).toNat).map fun (k:Nat)=>.int (i - (k:Int))) else none
  | _=>none
section
variable {X:Cx}{m m1:Bool}{rs rs1:List Nat}{a b c:Expr}{fa:En->Option D}{fs:En->Option (List D)}{pos:Pos}
theorem Z4O {K:Frag}{H:Hp}{d d' d'':D}{vs:List V}{fp:List Addr}(h:Reps K m H [d,d',d''] vs fp):∃ v v' v'' f f' f'',vs=[v,v',v''] /\ Rep K m H d v f /\ Rep K m H d' v' f' /\ Rep K m H d'' v'' f'' /\ fp=f ++ (f' ++ f''):=by
  simp only [Reps] at h
  obtain⟨v,r,f1,f2,rfl,rfl,h1,v',r',f3,f4,rfl,rfl,h2,v'',r'',f5,f6,rfl,rfl,h3,rfl,rfl⟩:=h
  exact⟨v,v',v'',f1,f3,f5,rfl,h1,h2,h3,by simp⟩
theorem T0 {tg:Expr}{p:Pos}(hg:Gl X "range") (hm:X.mg "range" = none) (ha:QA X m1 rs1 [a,b,c] fs) (hs:starEach [a,b,c] X.env=(false,eval a X.env) :: starEach [b,c] X.env:=by rfl) (hs2:(backTo pos (starEach [b,c] X.env)).any (·.1)=false:=by rfl) :
    QI X tg rs (.Call (.Name "range" p) [a,b,c] [] pos) (sB1 A4 fs) :=
  .mk (T4 hg hm ha hs hs2) fun σ H R ⟨env,F,ds,ok,e,q⟩=>by
    unfold sB1 at e
    cases h1:fs env with
    | none=>simp only [h1] at e;cases e
    | some xs =>
      simp only [h1,Option.bind_some] at e
      unfold A4 at e
      split at e
      . rename_i i j k
        split at e
        . rename_i hj
          cases e
          refine⟨env,F,_,ok,h1,fun vs H' fp s r c=>?_⟩
          obtain⟨v,v',v'',f,f',f'',rfl,r1,r2,r3,rfl⟩:=Z4O r
          rw [bH r1,bH r2,bH r3,hj.2]
          exact⟨i,j,rfl,hj.1,q _ H' [] s (tI _ _) (fun b hb=>(by cases hb)) .nil⟩
        . cases e
      . cases e
noncomputable def nW:List D->List D->List D
  | x :: xs,y :: ys=>.tup [x,y] :: nW xs ys
  | _,_=>[]
theorem xV:∀ (xs ys:List D) (i:Nat),(nW xs ys)[i]? = match xs[i]?,ys[i]? with | some x,some y=>some (.tup [x,y]) | _,_=>none
  | [],ys,i=>by simp [nW]
  | x :: xs,[],i=>by
    simp only [nW,List.getElem?_nil]
    split <;> simp_all
  | x :: xs,y :: ys,0=>by simp [nW]
  | x :: xs,y :: ys,i + 1=>by simp only [nW,List.getElem?_cons_succ];exact xV xs ys i
theorem xU:∀ (xs ys:List D),(nW xs ys).length=min xs.length ys.length
  | [],ys=>by simp [nW]
  | x :: xs,[]=>by simp [nW]
  | x :: xs,y :: ys=>by simp only [nW,List.length_cons,xU xs ys];omega
theorem W3 {K:Frag}{H0:Hp}{xs ys:List D}{a b:Addr}{f1 f2:List Addr}(r1:Rep K false H0 (.lst xs) (.ref a) f1) (r2:Rep K false H0 (.lst ys) (.ref b) f2):rE K (Itz K a b) H0 (nW xs ys) (f1 ++ f2):=fun H k i=>by
  have q1:=Rep.keep _ _ _ (k.sub fun b hb=>List.mem_append_left _ hb) r1
  have q2:=Rep.keep _ _ _ (k.sub fun b hb=>List.mem_append_right _ hb) r2
  obtain⟨p,vs,fp',e,hsq,hr,hsub⟩:=bW q1
  cases e
  obtain⟨p',vs',fp'',e,hsq',hr',hsub'⟩:=bW q2
  cases e
  refine⟨fun d hd=>?_,fun hl=>⟨vs,vs',hsq,hsq',by rw [hr.length,hr'.length];rw [xU] at hl;omega⟩⟩
  rw [xV] at hd
  split at hd
  . rename_i x y hx hy
    cases hd
    obtain⟨v,f,h1,h2,h3,_⟩:=hr.get hx
    obtain⟨v',f',h1',h2',h3',_⟩:=hr'.get hy
    refine⟨⟨vs,vs',v,v',hsq,hsq',h1,h1'⟩,fun x H' y=>?_⟩
    obtain⟨q,w,w',hq,rfl,ya,yb,rfl⟩:=y
    have e1:=ya vs hsq
    rw [h1] at e1
    cases e1
    have e2:=yb vs' hsq'
    rw [h1'] at e2
    cases e2
    refine⟨bM hq,f ++ f',oM hq ?_,fun c hc=>?_⟩
    . simp only [Reps]
      exact⟨v,[v'],f,f',rfl,rfl,h2,v',[],f',[],rfl,by simp,h2',rfl,rfl⟩
    . rcases List.mem_append.mp hc with z | z
      . exact List.mem_append_left _ (hsub c (h3 c z))
      . exact List.mem_append_right _ (hsub' c (h3' c z))
  . cases hd
noncomputable def A3:List D->Option (List D)
  | [.lst xs,.lst ys]=>some (nW xs ys)
  | _=>none
theorem C4 {elts:List Expr}{k1:Nat}{tpos p:Pos}(hg:Gl X "zip") (hm:X.mg "zip" = none) (ha:QA X m1 rs [a,b] fs) (hs:starEach [a,b] X.env=[(false,eval a X.env),(false,eval b X.env)]:=by rfl) (hs2:starEach [b] X.env=[(false,eval b X.env)]:=by rfl) :
    QI X (.Tuple elts k1 tpos) rs (.Call (.Name "zip" p) [a,b] [] pos) (sB1 A3 fs) :=
  .mk (Z3R hg hm ha hs hs2) fun σ H R ⟨env,F,ds,ok,e,q⟩=>by
    unfold sB1 at e
    cases h1:fs env with
    | none=>simp only [h1] at e;cases e
    | some xs =>
      simp only [h1,Option.bind_some] at e
      unfold A3 at e
      split at e
      . cases e
        refine⟨env,F,_,ok,h1,fun vs H' fp s r c=>?_⟩
        obtain⟨v,v',f,f',rfl,r1,r2,rfl⟩:=L3 r
        have r1':=Rep.weak _ _ _ r1
        have r2':=Rep.weak _ _ _ r2
        obtain⟨p,ws,fp',rfl,hsq,hr,hsub⟩:=bW r1
        obtain⟨p',ws',fp'',rfl,hsq',hr',hsub'⟩:=bW r2
        refine⟨p,p',rfl,⟨ws,hsq⟩,⟨ws',hsq'⟩,q _ H' (f ++ f') s (W3 r1' r2') (fun c hc=>?_) ⟨c.1,fun z=>(by cases z)⟩⟩
        rcases List.mem_append.mp hc with z | z
        . exact Rep.dom _ _ _ r1' c z
        . exact Rep.dom _ _ _ r2' c z
      . cases e
end
noncomputable def keyOf:D->Option Key
  | .int i=>some (.inl i)
  | .str x=>some (.inr x)
  | _=>none
theorem qC {K:Frag}{H:Hp}{st:Bool}{d:D}{k:Key}{v:V}{fp:List Addr}(e:keyOf d=some k) (r:Rep K st H d v fp):v=kV k:=by
  cases d with
  | int i=>cases e;exact bH r
  | str x=>cases e;exact gE r
  | _=>cases e
section
variable {κ:Type}[DecidableEq κ]
noncomputable def qY {α:Type}:List κ->List α->κ->Option α
  | k' :: ks,d :: ds,k=>if k'=k then some d else qY ks ds k
  | _,_,_=>none
noncomputable def wX (k:κ) (ks:List κ):Bool:=decide (k ∈ ks)
theorem memK_iff {k:κ}{ks:List κ}:wX k ks=true ↔ k ∈ ks:=by unfold wX;simp
noncomputable def C6 (ks:List κ) (k:κ):List κ:=if k ∈ ks then ks else ks ++ [k]
noncomputable def sL {α:Type}(ks:List κ) (xs:List α) (k:κ) (x:α):List α:=if k ∈ ks then List.zipWith (fun k' y=>if k'=k then x else y) ks xs else xs ++ [x]
theorem Z8 {ks:List κ}{vs:List V}{k:κ}:kZ (ks.zip vs) k=qY ks vs k:=by
  induction ks generalizing vs with
  | nil=>simp [qY,kZ]
  | cons k' ks ih =>
    cases vs with
    | nil=>simp [qY,kZ]
    | cons v vs =>
      rw [List.zip_cons_cons]
      unfold qY
      by_cases h:k'=k
      . rw [if_pos h,kY (by exact h)]
      . rw [if_neg h,jW (by exact h)]
        exact ih
theorem Z37 {ks:List κ}{vs:List V}{k:κ}(hl:ks.length=vs.length):((ks.zip vs).any fun kv=>decide (kv.1=k))=decide (k ∈ ks):=by
  induction ks generalizing vs with
  | nil=>simp
  | cons k' ks ih =>
    cases vs with
    | nil=>cases hl
    | cons v vs =>
      rw [List.zip_cons_cons,List.any_cons,ih (by simpa using hl)]
      by_cases h:k'=k
      . subst h;simp
      . have h':¬ k=k':=fun z=>h z.symm
        simp [h,h']
theorem Z2F {ks:List κ}{vs:List V}{k:κ}{v:V}:(ks.zip vs).map (fun kv=>if kv.1=k then (kv.1,v) else kv)=ks.zip (List.zipWith (fun k' y=>if k'=k then v else y) ks vs):=by
  induction ks generalizing vs with
  | nil=>simp
  | cons k' ks ih =>
    cases vs with
    | nil=>simp
    | cons v' vs =>
      simp only [List.zip_cons_cons,List.map_cons,List.zipWith_cons_cons,ih]
      split <;> rfl
theorem Z0y {ks:List κ}{vs:List V}{k:κ}{v:V}(hl:ks.length=vs.length):pA (ks.zip vs) k v=(C6 ks k).zip (sL ks vs k v):=by
  unfold pA C6 sL
  rw [Z37 hl]
  by_cases h:k ∈ ks
  . simp only [h,decide_true,if_true]
    exact Z2F
  . simp only [h,decide_false,Bool.false_eq_true,if_false]
    rw [List.zip_append hl]
    rfl
theorem Z0w {α:Type}{ks:List κ}{xs:List α}{k:κ}{x:α}(hl:ks.length=xs.length):(C6 ks k).length=(sL ks xs k x).length:=by
  unfold C6 sL
  split
  . simp [hl]
  . simp [hl]
theorem vL {α:Type}{k:κ}:∀ {ks:List κ}{xs:List α},ks.length=xs.length->(qY ks xs k).isSome=wX k ks
  | [],xs,h=>by simp [qY,wX]
  | k' :: ks,[],h=>by cases h
  | k' :: ks,x :: xs,h=>by
    unfold qY
    by_cases hk:k'=k
    . subst hk;simp [wX]
    . rw [if_neg hk,vL (by simpa using h)]
      have h':¬ k=k':=fun z=>hk z.symm
      simp [wX,h']
theorem qK {K:Frag}{st:Bool}{H:Hp}{k:κ}{d:D}{v:V}(rd:Rep K st H d v []):∀ {ks:List κ}{ds:List D}{vs:List V},Reps K st H ds vs []->Reps K st H (List.zipWith (fun k' y=>if k'=k then d else y) ks ds) (List.zipWith (fun k' y=>if k'=k then v else y) ks vs) []
  | [],ds,vs,r=>by simp only [List.zipWith_nil_left,Reps];exact⟨trivial,trivial⟩
  | k' :: ks,[],vs,r=>by
    simp only [Reps] at r
    obtain⟨rfl,_⟩:=r
    simp only [List.zipWith_nil_right,Reps];exact⟨trivial,trivial⟩
  | k' :: ks,x :: ds,vs,r=>by
    simp only [Reps] at r
    obtain⟨w,us,f1,f2,rfl,e,r1,r2⟩:=r
    obtain⟨rfl,rfl⟩:=List.append_eq_nil_iff.mp e.symm
    have ih:=qK (k:=k) rd (ks:=ks) r2
    simp only [List.zipWith_cons_cons,Reps]
    refine⟨_,_,[],[],rfl,rfl,?_,ih⟩
    split
    . exact rd
    . exact r1
theorem Z0v {K:Frag}{st:Bool}{H:Hp}{k:κ}{d:D}{v:V}{ks:List κ}{ds:List D}{vs:List V}(rd:Rep K st H d v []) (r:Reps K st H ds vs []):Reps K st H (sL ks ds k d) (sL ks vs k v) []:=by
  unfold sL
  split
  . exact qK rd r
  . have:=Reps.snoc r rd
    simpa using this
end
theorem Z1V {K:Frag}{H:Hp}{d:Addr}{o u:HO}(hd:H d=some o) (h1:∀ xs,o ≠ .tup xs) (h2:∀ q xs,o ≠ .frz q (.tup xs)):∀ a xs,SqT K H a xs->SqT K (upd H d u) a xs:=by
  intro a xs h
  rcases h with (h | ⟨q,h⟩) | h
  . exact .inl (.inl (by rw [aX (fun z=>by rw [z,hd] at h;exact h1 _ (Option.some.inj h))];exact h))
  . exact .inl (.inr ⟨q,by rw [aX (fun z=>by rw [z,hd] at h;exact h2 _ _ (Option.some.inj h))];exact h⟩)
  . exact .inr h
section
variable {X:Cx}{m m' m1 m2 m3:Bool}{rs rs' rs1 rs2 rs3:List Nat}{e a b c:Expr}{f fa fb fc:En->Option D}{pos p pos':Pos}{i:Nat}{x:Str}
theorem Z56 {K:Frag}{H:Hp}{q:Addr}{ks:List Key}{vs:List V}{ds:List D}{fp:List Addr}(hq:H q=none) (hl:ks.length=vs.length) (h:Reps K m H ds vs fp):Rep K m (upd H q (.dK (ks.zip vs))) (.dk ks ds) (.ref q) (q :: fp):=by
  simp only [Rep]
  exact⟨q,vs,fp,rfl,rfl,aY,hl,h.same (bM hq)⟩
theorem mT {K:Frag}{H:Hp}:Reps K m H [] [] []:=by simp only [Reps];exact⟨trivial,trivial⟩
theorem Z0t:QE X true [] (.Dict [] [] pos) (fC (.dk [] [])):=.mk L2.pe_dnewK fun σ H Q ⟨env,F,d,ok,e,q⟩=>by
  cases e
  intro p hp
  exact q _ _ [p] (bM hp) (Z56 (ks:=[]) (vs:=[]) hp rfl mT) (lN (m:=true) (K:=X.K) (Same.refl H) hp (mT (m:=true)) .nil)
theorem Z57 {K:Frag}{H:Hp}{q:Addr}(hq:H q=none):Rep K m (upd H q (.dE [] 0)) (.dt [] []) (.ref q) [q]:=by
  simp only [Rep]
  exact⟨q,[],0,[],[],rfl,rfl,rfl,fun e he=>(by cases he),mT,.inl ⟨rfl,aY⟩⟩
theorem sK:QE X true [] (.Dict [] [] pos) (fC (.dt [] [])):=.mk L2.pe_dnewE fun σ H Q ⟨env,F,d,ok,e,q⟩=>by
  cases e
  intro p hp
  exact q _ _ [p] (bM hp) (Z57 hp) (lN (m:=true) (K:=X.K) (Same.refl H) hp (mT (m:=true)) .nil)
noncomputable def J8 (fa fb:En->Option D):En->Option Bool:=fun env=>match fa env,fb env with
  | some x,some (.dk ks ds)=>match keyOf x with
    | some k=>some (wX k ks)
    | none=>none
  | _,_=>none
theorem Q6 {K:Frag}{σ:L2.St}{H:Hp}{Q:VK}(neg:Bool) {env:En}{F:Nat->List Addr}{bb:Bool}(ok:EnvOk K H σ env F) (e:J8 fa fb env=some bb) (q:∀ H',Same H H'->Q (.bl (if neg then !bb else bb)) H') :
    tD K m1 rs1 fa σ H fun y H1=>tD K m2 rs2 fb σ H1 fun x H2=>∃ a o,x=.ref a /\ DGet H2 a y o /\ Q (.bl (if neg then !o.isSome else o.isSome)) H2:=by
  unfold J8 at e
  split at e
  . rename_i x ks ds h1 h2
    cases hk:keyOf x with
    | none=>rw [hk] at e;cases e
    | some k =>
      rw [hk] at e
      cases e
      refine two ok h1 h2 fun v u H' f1 f2 s r1 r2 _ _=>?_
      rw [qC hk r1]
      simp only [Rep] at r2
      obtain⟨a,vs,fp',rfl,rfl,hs,hl,hr⟩:=r2
      refine⟨a,_,rfl,DGet.k hs,?_⟩
      rw [Z8,vL hl]
      exact q H' s
  . cases e
theorem Z3H (hu:X.A.units + 1 < cLine) (ha:QE X m1 rs1 a fa) (hb:QE X m2 rs2 b fb) (hm:behindInMarks .In b=false:=by with_unfolding_all rfl):QT X (.Compare a [.In] [b] pos) (J8 fa fb) :=
  .mk (L2.pt_cmp (Z3Z hu ha hb) hm) fun σ H Q ⟨env,F,bb,ok,e,q⟩=>Q6 (Q:=fun v H'=>∃ k,v=.bl k /\ Q k H') false ok e fun H' s=>⟨bb,rfl,q H' s⟩
theorem oC {K:Frag}{P H:Hp}{σ:L2.St}{env:En}{F:Nat->List Addr}{i:Nat}{d0 d1:D}{a:Addr}{o o':HO}{fp' fp2:List Addr}(sm:Same P H) (hl:σ.length=env.length) (h:EnvS K P H σ env F) (ei:env[i]? = some (some (true,d0)))
    (hv:σ[i]? = some (some (.ref a))) (hF:F i=a :: fp') (ha:H a=some o) (nt:∀ xs,o ≠ .tup xs) (nf:∀ x u,o ≠ .frz x u) (new:∀ st,Rep K st (upd H a o') d1 (.ref a) (a :: fp2)) (nd:(a :: fp2).Nodup) (hn:∀ b ∈ fp2,b ∈ fp' \/ (P b=none /\ ∀ j s,env[j]? = some (some s)->b ∉ F j)) :
    SInv K P (upd H a o') σ (env.set i (some (true,d1))):=by
  have hi:i < env.length:=(List.getElem?_eq_some_iff.mp ei).1
  obtain⟨o1,o2,o3,o4⟩:=h.own i _ ei
  have ha0:a ∈ F i:=by rw [hF];exact List.mem_cons_self
  have kp:∀ {fp:List Addr},a ∉ fp->Kp fp H (upd H a o'):=fun hn=>Kp.upd ha nt nf hn
  refine⟨fun b o e=>?_,by simp [hl],J3 F i (a :: fp2),fun j o d e=>?_,fun j d e=>?_⟩
  . have:b ≠ a:=fun z=>by have:=o2 a ha0;rw [z,this] at e;cases e
    rw [aX this];exact sm _ _ e
  . rw [cQ hi] at e
    by_cases hj:j=i
    . subst hj
      rw [if_pos rfl] at e
      cases e
      exact⟨_,hv,by rw [bN];exact new false⟩
    . rw [if_neg hj] at e
      obtain⟨w,h1,h2⟩:=h.ok j o d e
      exact⟨w,h1,by rw [bA hj];exact Rep.keep _ _ _ (kp (o4 j _ hj e a ha0)) h2⟩
  . rw [cQ hi] at e
    by_cases hj:j=i
    . subst hj
      rw [if_pos rfl] at e
      cases e
      refine⟨by rw [bN];exact nd,fun b hb=>?_,fun w hw=>?_,fun k s hk ek b hb=>?_⟩
      . rw [bN] at hb
        rcases List.mem_cons.mp hb with z | z
        . rw [z];exact o2 a ha0
        . rcases hn b z with y | y
          . exact o2 b (by rw [hF];exact List.mem_cons_of_mem _ y)
          . exact y.1
      . rw [hv] at hw
        cases hw
        rw [bN];exact new true
      . rw [bN] at hb
        rw [bA hk]
        rw [cQ hi,if_neg hk] at ek
        rcases List.mem_cons.mp hb with z | z
        . rw [z];exact o4 k s hk ek a ha0
        . rcases hn b z with y | y
          . exact o4 k s hk ek b (by rw [hF];exact List.mem_cons_of_mem _ y)
          . exact y.2 k s ek
    . rw [if_neg hj] at e
      obtain⟨a1,a2,a3,a4⟩:=h.own j d e
      refine⟨by rw [bA hj];exact a1,fun b hb=>a2 b (by rw [bA hj] at hb;exact hb),fun w hw=>by rw [bA hj];exact Rep.keep _ _ _ (kp (o4 j _ hj e a ha0)) (a3 w hw),fun k s hk ek b hb=>?_⟩
      rw [bA hj] at hb
      rw [cQ hi] at ek
      by_cases hki:k=i
      . subst hki
        rw [bN]
        intro z
        rcases List.mem_cons.mp z with z | z
        . exact a4 k _ hk ei b hb (by rw [z];exact ha0)
        . rcases hn b z with y | y
          . exact a4 k _ hk ei b hb (by rw [hF];exact List.mem_cons_of_mem _ y)
          . exact y.2 j _ e hb
      . rw [if_neg hki] at ek
        rw [bA hki]
        exact a4 k s hk ek b hb
noncomputable def sI (i:Nat) (fk fv:En->Option D):En->Res:=fun env=>match fv env,env[i]?,fk env with
  | some d,some (some (true,.dk ks ds)),some kd=>match keyOf kd with
    | some k=>if flats ds=true /\ flat d=true /\ ks.length < 1000 then .next (env.set i (some (true,.dk (C6 ks k) (sL ks ds k d)))) else .bad
    | none=>.bad
  | _,_,_=>.bad
theorem M3 {fk fv:En->Option D}{value key:Expr}(hu:X.A.units + 1 < cLine) (i:Nat) (hk:QE X m2 rs2 key fk) (hv:QE X m1 rs1 value fv) (hN:X.N[i]? = some x:=by rfl) (hvis:Vis X.env.scope x:=by first | exact Or.inl rfl | exact Or.inr (Or.inl rfl) | exact Or.inr (Or.inr rfl)) (hd:(x == ("__debug__" : Str))=false:=by decide) (hcd:(x == ("__classdict__" : Str))=false:=by decide)
    (hs:swapsWith value (some (.Subscript (.Name x p) key pos')) pos.line X.env=pure false:=by rfl) :
    QS X (.Assign [.Subscript (.Name x p) key pos'] value pos) (sI i fk fv):=.mk (Z2n hu (jA hN hvis hd hcd) hk hv hs) fun E σ H ⟨P,env,I,q⟩=>by
  obtain⟨F,hF⟩:=I.ex
  unfold sI at q
  split at q
  . rename_i d ks ds kd h1 h2 h3
    cases hkk:keyOf kd with
    | none=>rw [hkk] at q;exact q.elim
    | some k =>
      rw [hkk] at q
      simp only at q
      split at q
      . rename_i hfl
        obtain⟨w,hv1,_⟩:=hF.ok i true _ h2
        obtain⟨o1,o2,o3,o4⟩:=hF.own i _ h2
        have r0:=o3 w hv1
        simp only [Rep] at r0
        obtain⟨a,vs,fp',rfl,hFi,ha,hl,hr⟩:=r0
        obtain⟨e1,e2⟩:=Reps.flat _ _ _ hfl.1 hr
        subst e1
        refine⟨env,F,d,hF.ok,h1,fun v H1 fp s r c=>⟨.ref a,hv1,env,F,kd,hF.ok.same s,h3,fun kv H2 fp2 s2 r2 c2=>?_⟩⟩
        obtain⟨_,rf⟩:=Rep.flat _ _ _ hfl.2.1 r
        rw [qC hkk r2]
        have ha':=(s.trans s2) _ _ ha
        have hlk:(ks.zip vs).length < sizeLine:=by
          rw [List.length_zip]
          have:=eJ (n:=ks.length) (by omega)
          omega
        refine⟨a,_,rfl,DPut.k ha' hlk,q _ _ ?_⟩
        refine oC (fp2:=[]) (fp':=[]) (I.same.trans (s.trans s2)) I.len (hF.grow (s.trans s2)) h2 hv1 hFi ha' (by intro xs z;cases z) (by intro x u z;cases z) (fun st=>?_) (by simp) (fun b hb=>(by cases hb))
        rw [Z0y hl]
        simp only [Rep]
        refine⟨a,sL ks vs k v,[],rfl,rfl,aY,Z0w hl,?_⟩
        refine Reps.keep _ _ _ (Kp.upd (fp:=[]) ha' (by intro xs z;cases z) (by intro x u z;cases z) (by simp)) ?_
        exact Z0v ((rf st).same s2) ((e2 st).same (s.trans s2))
      . exact q.elim
  . exact q.elim
end
section
variable {prog:Program}{w:World}{A:Around}{E:Value->Shared->Prop}{s:Shared}{T:String}{r d:Addr}{n:Nat}{PP:Nat->Value->Prop}{OK:Heap->Prop}
theorem zW {Z:List Value->Shared->Prop}(S:PySem.W.KdlSrc prog w T r d n PP OK) (h0:A.handled=none) (hS:OK s.heap) (hz:n <= sizeLine)
    (fin:∀ (hp:Heap) (tk:Nat) (vs:Array Value),(∀ c o,s.heap.get? c=some o->hp.get? c=some o)->s.heap.objs.size < hp.objs.size->PySem.ItemsOf PP vs n->Z vs.toList { s with heap:=hp,toks:=tk }) :
    wpAny (model prog w) A (collect (.ref r)) Z E s:=by
  obtain⟨l1,l2⟩:=S.there _ hS
  unfold collect;refine wpAny_bind (wpAny_runValue (codeAny_builtin PyProof.Rows.entry_proto_collect' ?_));rw [Around.under_plainId PySem.F.plain_proto_collect _]
  show wpAny _ A.in1 (newList [] >>= fun nl=>again (.builtin "list.__iadd__" ⟨[nl,.ref r],[]⟩)) _ _ s
  refine wpAny_bind (wpAny_newObj_type (wpAny_pure ⟨plainId_quiet PySem.F.plain_list_iadd _,codeAny_builtin PyProof.Rows.entry_list_iadd' ?_⟩));rw [Around.under_plainId PySem.F.plain_list_iadd _]
  have hN:(s.heap.push { cls:=.type "list",data:=.seq ([]:List Value).toArray }).get? s.heap.objs.size=some { cls:=.type "list",data:=.seq #[] }:=Heap.get?_push_size _ rfl
  have ext:=PySem.W.kdl_extend (A:=A) (s:={ s with heap:=s.heap.push { cls:=.type "list",data:=.seq ([]:List Value).toArray } })
    (R:=fun (q:Result) (t:Shared)=>q=.ok (.ret (.ref s.heap.objs.size)) /\ ∃ (hp:Heap) (tk:Nat) (vs:Array Value) (k:Nat),t={ s with heap:=hp,toks:=tk } /\ (∀ c o,s.heap.get? c=some o->hp.get? c=some o) /\
      hp.get? s.heap.objs.size=some { cls:=.type "list",dict:=none,data:=.seq vs k,slots:=#[] } /\ PySem.ItemsOf PP vs n)
    S h0 (S.keep _ _ hS fun c _ o e=>Heap.get?_push_of_some _ e) s.heap.objs.size (Nat.ne_of_gt l1) (Nat.ne_of_gt l2) (.ref s.heap.objs.size) 0 hN
    (fun hp tk vs k kept at' its=>⟨rfl,hp,tk,vs,k,rfl,fun c o e=>kept c o (Nat.ne_of_lt (Heap.lt_size e)) (Heap.get?_push_of_some _ e),at',its⟩) hz
  show wpAny _ A.in1 (Builtin.List.listExtendWith (.ref s.heap.objs.size) (.ref r) (.ref s.heap.objs.size)) _ _ _
  refine wpAny_mono ext (fun out t hq=>?_) fun x t hq=>(by cases hq.1)
  cases out with
  | done fl =>
    obtain⟨e,hp,tk,vs,k,rfl,kept,at',its⟩:=hq;cases e
    show wpAny _ A (load s.heap.objs.size >>= _) _ _ _;exact wpAny_bind (wpAny_load at' (wpAny_pure (fin hp tk vs kept (Heap.lt_size at') its)))
  | again code =>
    refine⟨hq.1,codeAny_mono hq.2 fun res t2 hr=>?_⟩
    obtain⟨rfl,hp,tk,vs,k,rfl,kept,at',its⟩:=hr
    show wpAny _ A (load s.heap.objs.size >>= _) _ _ _;exact wpAny_bind (wpAny_load at' (wpAny_pure (fin hp tk vs kept (Heap.lt_size at') its)))
end
theorem tH:∀ {l:List Value}{ns:List Int},l.length=ns.length->(∀ (j:Nat) (v:Value),l[j]? = some v->∃ n t,ns[j]? = some n /\ v=.int n t)->IntsAre l ns
  | [],[],_,_=>.nil
  | [],_ :: _,h,_=>by cases h
  | _ :: _,[],h,_=>by cases h
  | v :: l,n :: ns,h,hv=>by
    obtain⟨n',t,e,rfl⟩:=hv 0 v rfl
    cases e
    exact .cons n t (tH (by simpa using h) fun j u hu=>hv (j + 1) u hu)
section
variable {X:Cx}{m m1:Bool}{rs rs1:List Nat}{a:Expr}{fa:En->Option D}{pos:Pos}
theorem uO (hc:X.calm=true):CallR X (.builtin "sorted") (fun vs H Q=>∃ (a:Addr) (kvs:List (Key × V)) (ns:List Int),vs=[.ref a] /\ H a=some (.dK kvs) /\ kvs.map (·.1)=ns.map Sum.inl /\ ns.length < 64 /\ ∀ l,H l=none->Q (.ref l) (upd H l (.lst ((uB ns).map V.int)))):=fun pins s σ H xs us Q I w h=>by
  obtain⟨a,kvs,ns,rfl,ha,hk,h64,q⟩:=h
  obtain⟨u,rfl,r⟩:=oT w
  cases (show u=Value.ref a from r)
  obtain⟨z,hd,vs,rel,dd⟩:=Z3r I.hok ha
  obtain⟨ep,hat⟩:=dd.dictAt
  have hkeys:=rel.keys
  have hlen:=rel.length
  have hn:vs.length=ns.length:=by
    have:=congrArg List.length hk
    simp only [List.length_map] at this
    omega
  have hz:vs.length <= sizeLine:=by omega
  refine Calls.call_function_entry kind_sorted plain_sorted entry_sorted (args_sorted1 _) ?_
  unfold Builtin.«sorted»;refine wpAny_bind (m:=checkCount "sorted" 1 1 _) (wpAny_pure ?_)
  refine wpAny_bind (zW (A:=X.A.in1) (PySem.W.kdl_dict (knd:=dU X.prog X.w) (kvs:=vs) (ep:=ep) hd) (I.ok.hd hc) hat hz fun hp tk acc kept hlt its=>?_)
  have hI:IntsAre acc.toList ns:=by
    refine tH (by rw [Array.length_toList,its.1,hn]) fun j v hv=>?_
    rw [Array.getElem?_toList] at hv
    obtain⟨k,x,hx,hkv⟩:=its.2 j v hv
    have e1:(vs.map (·.1))[j]? = some k:=by rw [List.getElem?_map,hx];rfl
    rw [<- hkeys,hk,List.getElem?_map] at e1
    cases hns:ns[j]? with
    | none=>rw [hns] at e1;cases e1
    | some n =>
      rw [hns] at e1
      simp only [Option.map_some,Option.some.injEq] at e1
      subst e1
      rcases dO (show tE (Sum.inl n) v=true from hkv) with ⟨i,t,e,rfl⟩ | ⟨x,t,e,_⟩
      . cases e
        exact⟨n,t,rfl,rfl⟩
      . cases e
  have hal:acc.toList.length < 64:=by rw [Array.length_toList,its.1,hn];exact h64
  refine wpAny_bind (wpAny_newList ?_ (by rw [Array.length_toList,its.1];exact hz))
  have hoL:(hp.push { cls:=.type "list",data:=.seq acc.toList.toArray }).get? hp.objs.size=some (seqObj "list" acc.toList.toArray 0):=Heap.get?_push_size _ rfl
  refine wpAny_bind (wpAny_holding (wpAny_call_entry slot_list_sort ⟨_,hoL,rfl⟩ entry_list_sort (list_sort_tree hoL hI hal fun out ns' a1 a2 a3=>⟨_,rfl,?_⟩) (args_list_sort _)))
  refine wpAny_pure ⟨_,rfl,?_⟩
  obtain⟨ee,he⟩:=sortedHeap_at (out:=out) hoL
  have hns:ns'=uB ns:=kA (a2.trans (jP ns).symm) a3 (mS ns)
  subst hns
  refine⟨.ref hp.objs.size,_,I.laid (t':=tk) (fun c u e=>?_) (Nat.le_of_lt hlt) (show ObjOk X.prog X.w _ _ _ (.lst ((uB ns).map V.int)) from ⟨?_,out.toList,ee,nI a1,?_⟩),rfl,q _ (I.hok.fresh (Nat.le_of_lt hlt))⟩
  . have e':=kept c u e
    have h2:=Heap.lt_size e'
    rw [sortedHeap_old (Nat.ne_of_lt h2) (by rw [size_push'];exact Nat.lt_succ_of_lt h2)]
    exact Heap.get?_push_of_some _ e'
  . have:=a2.length_eq
    rw [List.length_map,this]
    omega
  . rw [Array.toArray_toList]
    exact he
noncomputable def kM:List Key->Option (List Int)
  | []=>some []
  | .inl i :: r=>(kM r).map (i :: ·)
  | .inr _ :: _=>none
theorem qV:∀ {ks:List Key}{ns:List Int},kM ks=some ns->ks=ns.map Sum.inl
  | [],ns,h=>by cases h;rfl
  | .inl i :: r,ns,h=>by
    unfold kM at h
    cases hr:kM r with
    | none=>rw [hr] at h;cases h
    | some m=>rw [hr] at h;cases h;rw [List.map_cons,<- qV hr]
  | .inr _ :: _,ns,h=>by cases h
theorem E8 (ns:List Int):kM (ns.map Sum.inl)=some ns:=by
  induction ns with
  | nil=>rfl
  | cons n ns ih=>rw [List.map_cons];unfold kM;rw [ih];rfl
noncomputable def xT:List D->Option D
  | [.dk ks _]=>match kM ks with
    | some ns=>if ns.length < 64 then some (.lst ((uB ns).map .int)) else none
    | none=>none
  | _=>none
theorem Z0n {p:Pos}(hc:X.calm=true) (hg:Gl X "sorted") (hm:X.mg "sorted" = none) (ha:QE X m1 rs1 a fa) (he:starEach [a] X.env=(false,eval a X.env) :: starEach [] X.env:=by rfl) (hpl:(backTo pos (starEach [] X.env)).any (·.1)=false:=by rfl) :
    QE X m rs (.Call (.Name "sorted" p) [a] [] pos) (fB1 xT (aC fa aL)) :=
  lE (uO hc) hg hm zY (aD ha aJ he) (fun ds d vs H fp Q e r q=>by
    unfold xT at e
    split at e
    . rename_i ks xs
      cases hq:kM ks with
      | none=>rw [hq] at e;cases e
      | some ns =>
        rw [hq] at e
        simp only at e
        split at e
        . rename_i h64
          cases e
          obtain⟨v,rfl,r1⟩:=jX r
          simp only [Rep] at r1
          obtain⟨p,ws,fp',rfl,rfl,hs,hl,hr⟩:=r1
          refine⟨p,_,ns,rfl,hs,?_,h64,fun l hl=>?_⟩
          . rw [<- qV hq,List.map_fst_zip (by omega)]
          . exact q _ _ [l] (bM hl) (kT hl (nM (uB ns))) (fun b hb=>by simp at hb;rw [hb];exact hl) (by simp)
        . cases e
    . cases e) (he:=he) (hpl:=hpl)
end
noncomputable abbrev Itm:=Sum Nat (En->Option D)
noncomputable def iP:List Itm->En->Option (List D)
  | [],_=>some []
  | .inl i :: r,env=>match env[i]?,iP r env with
    | some (some (true,d)),some ds=>some (d :: ds)
    | _,_=>none
  | .inr f :: r,env=>match f env,iP r env with
    | some d,some ds=>some (d :: ds)
    | _,_=>none
noncomputable def ownOf:List Itm->List Nat
  | []=>[]
  | .inl i :: r=>i :: ownOf r
  | .inr _ :: r=>ownOf r
noncomputable def Z3y (K:Frag) (is:List Itm):TA:=fun σ H Q=>∃ P env F ds,Same P H /\ EnvS K P H σ env F /\ iP is env=some ds /\
  ∀ vs H' fp,Same H H'->Reps K true H' ds vs fp->fp.Nodup->(∀ b ∈ fp,P b=none /\ (H b=none \/ ∃ i ∈ ownOf is,∃ d,env[i]? = some (some (true,d)) /\ b ∈ F i))->Q vs H'
noncomputable def QIt (X:Cx) (es:List Expr) (is:List Itm):Prop:=PA X es (Z3y X.K is)
section
variable {X:Cx}{m m' m1 m2:Bool}{rs rs' rs1 rs2:List Nat}{e a b c:Expr}{es:List Expr}{f fa fb:En->Option D}{is:List Itm}{pos p p2 p3 pos':Pos}{i j:Nat}{x y:Str}
theorem Z28:QIt X [] []:=fun pos pins s σ H Q I ⟨P,env,F,ds,sm,hF,e,q⟩=>L2.pa_nil pos pins s σ H Q I (by
  cases e
  exact q [] H [] (Same.refl H) (by simp only [Reps];exact⟨trivial,trivial⟩) List.nodup_nil (fun b hb=>(by cases hb)))
theorem wN (i:Nat) (hr:QIt X es is) (hni:i ∉ ownOf is:=by simp [PD.ownOf]) (hN:X.N[i]? = some x:=by rfl) (hv:Vis X.env.scope x:=by first | exact Or.inl rfl | exact Or.inr (Or.inl rfl) | exact Or.inr (Or.inr rfl)) (hd:(x == ("__debug__" : Str))=false:=by decide) (hcd:(x == ("__classdict__" : Str))=false:=by decide)
    (h1:starEach (.Name x p :: es) X.env=(false,eval (.Name x p) X.env) :: starEach es X.env:=by rfl):QIt X (.Name x p :: es) (.inl i :: is) :=
  fun pos pins s σ H Q I ⟨P,env,F,ds,sm,hF,e,q⟩=>L2.pa_cons (jA hN hv hd hcd) hr h1 pos pins s σ H Q I (by
    unfold iP at e
    split at e
    . rename_i d ds' e1 e2
      cases e
      obtain⟨v,hv1,_⟩:=hF.ok i true d e1
      obtain⟨a1,a2,a3,a4⟩:=hF.own i d e1
      refine⟨v,hv1,P,env,F,ds',sm,hF,e2,fun vs H' fp s r nd hb=>?_⟩
      refine q (v :: vs) H' (F i ++ fp) s ?_ (List.nodup_append.mpr ⟨a1,nd,fun b hb1 b' hb2 z=>?_⟩) (fun b hb'=>?_)
      . simp only [Reps]
        exact⟨v,vs,F i,fp,rfl,rfl,(a3 v hv1).same s,r⟩
      . rw [<- z] at hb2
        rcases (hb b hb2).2 with y | ⟨k,hk,d',ek,hbk⟩
        . obtain⟨o,ho⟩:=hF.dom e1 b hb1
          rw [y] at ho;cases ho
        . exact a4 k _ (fun z=>hni (z ▸ hk)) ek b hb1 hbk
      . rcases List.mem_append.mp hb' with z | z
        . exact⟨a2 b z,.inr ⟨i,by simp [ownOf],d,e1,z⟩⟩
        . obtain⟨y1,y2⟩:=hb b z
          exact⟨y1,y2.imp id fun⟨k,hk,d',ek,hbk⟩=>⟨k,by simp [ownOf,hk],d',ek,hbk⟩⟩
    . cases e)
theorem Z29 (he:QE X true [] e f) (hr:QIt X es is) (h1:starEach (e :: es) X.env=(false,eval e X.env) :: starEach es X.env:=by rfl):QIt X (e :: es) (.inr f :: is) :=
  fun pos pins s σ H Q I ⟨P,env,F,ds,sm,hF,e',q⟩=>L2.pa_cons he hr h1 pos pins s σ H Q I (by
    unfold iP at e'
    split at e'
    . rename_i d ds' e1 e2
      cases e'
      refine⟨env,F,d,hF.ok,e1,fun v H1 fp1 s1 r1 c1=>⟨P,env,F,ds',sm.trans s1,hF.grow s1,e2,fun vs H' fp s r nd hb=>?_⟩⟩
      obtain⟨n1,n2⟩:=c1.2 rfl
      refine q (v :: vs) H' (fp1 ++ fp) (s1.trans s) ?_ (List.nodup_append.mpr ⟨n1,nd,fun b hb1 b' hb2 z=>?_⟩) (fun b hb'=>?_)
      . simp only [Reps]
        exact⟨v,vs,fp1,fp,rfl,rfl,r1.same s,r⟩
      . rw [<- z] at hb2
        rcases (hb b hb2).2 with y | ⟨k,hk,d',ek,hbk⟩
        . obtain⟨o,ho⟩:=Rep.dom _ _ _ r1 b hb1
          rw [y] at ho;cases ho
        . obtain⟨o,ho⟩:=hF.dom ek b hbk
          rw [n2 b hb1] at ho;cases ho
      . rcases List.mem_append.mp hb' with z | z
        . exact⟨sm.free (n2 b z),.inl (n2 b z)⟩
        . obtain⟨y1,y2⟩:=hb b z
          refine⟨y1,?_⟩
          rcases y2 with y | y
          . exact .inl (s1.free y)
          . obtain⟨k,hk,d',ek,hbk⟩:=y
            exact .inr ⟨k,by simpa [ownOf] using hk,d',ek,hbk⟩
    . cases e')
noncomputable def yK (is:List Itm):En->Res:=fun env=>match iP is env with
  | some ds=>if ds.length <= 1000 then .ret (.tup ds) else .bad
  | none=>.bad
theorem Z27 {k1:Nat}(h:QIt X es is):QS X (.Return (some (.Tuple es k1 p3)) pos) (yK is):=.mk (wO (L2.pe_tup h)) fun E σ H ⟨P,env,I,q⟩=>by
  obtain⟨F,hF⟩:=I.ex
  unfold yK at q
  split at q
  . rename_i ds e1
    split at q
    . rename_i hl
      refine⟨P,env,F,ds,I.same,hF,e1,fun vs H' fp s r nd hb=>⟨by rw [r.length];exact Nat.le_of_lt (eJ hl),fun q' hq=>?_⟩⟩
      exact q _ _ fp ((I.same.trans s).trans (bM hq)) (oM hq r) (fun b hb'=>(hb b hb').1) nd
    . exact q.elim
  . exact q.elim
end
end PD
namespace HT
open PySem PyProof.Rows
section
variable {prog:Program}{w:World}{A:Around}{E:Value->Shared->Prop}{s:Shared}
theorem getItem_tuple_all {t sl:Addr}{items:Array Value}{vl vu:Value}{lo hi:Option Int}{Q:Value->Shared->Prop}(ht:IsTup s.heap t items) (hs:s.heap.IsSliceOf sl vl vu .none) (pl:IsPart vl lo) (pu:IsPart vu hi)
    (h1:sIx items.size 0 lo=0) (h2:sIx items.size items.size hi=items.size) (h:Q (.ref t) s):wpAny (model prog w) A (getItem (.ref t) (.ref sl)) Q E s:=by
  obtain⟨os,hos,hcs,hds⟩:=id hs
  have hTs:s.TypeIs (.ref sl) "slice":=⟨os,hos,hcs⟩
  unfold getItem
  try with_reducible refine wpAny_holding ?_
  first | refine wpAny_bind (wpAny_pure ?_) | skip
  refine wpAny_bind (wpAny_sequenceKey ht.typeIs (by decide) ?_)
  refine wpAny_bind (wpAny_callSpecial?_slot (name:=Str.ofString "__getitem__") ht.typeIs PyProof.Rows.slot_tuple_getitem
    (wpAny_call_entry PyProof.Rows.slot_tuple_getitem ht.typeIs entry_tuple_getitem ?_ (args_tuple_getitem _ _)))
  show wpAny _ _ (Builtin.Tuple.tupleItemsOf (.ref t) >>= _) _ _ s
  refine wpAny_bind (tupleItemsOf_ ht ?_)
  refine wpAny_bind (wpAny_typeOf hTs ?_)
  rw [if_pos (by decide)]
  refine wpAny_bind (lB hs pl pu ?_)
  have hyes:(((sIx items.size 0 lo:Nat):Int) == 0 && (1:Int) == 1 && (sIx items.size items.size hi - sIx items.size 0 lo) == items.size)=true:=by
    rw [h1,h2]
    simp
  show wpAny _ _ (if (((sIx items.size 0 lo:Nat):Int) == 0 && (1:Int) == 1 && (sIx items.size items.size hi - sIx items.size 0 lo) == items.size)=true then _ else _) _ _ s
  rw [if_pos hyes]
  refine wpAny_bind ?_
  unfold Builtin.Tuple.tupleIsExact
  refine wpAny_bind (wpAny_typeOf ht.typeIs (wpAny_pure ?_))
  show wpAny _ _ (if (Value.type "tuple" == Value.type "tuple")=true then _ else _) _ _ s
  rw [if_pos (by decide)]
  exact wpAny_bind (wpAny_rule (wpAny_pure ⟨_,rfl,wpAny_pure h⟩))
end
end HT
namespace PD
open PySem PySem.Spec PyProof.Rows L2
section
variable {X:Cx}{m m' m1 m2:Bool}{rs rs' rs1 rs2:List Nat}{e a b c:Expr}{f fa fb:En->Option D}{pos p p2 p3 pos':Pos}
theorem Reps.rev {K:Frag}{st:Bool}{H:Hp}:∀ {ds:List D}{vs:List V},Reps K st H ds vs []->Reps K st H ds.reverse vs.reverse []
  | [],vs,h=>by
    simp only [Reps] at h
    obtain⟨rfl,_⟩:=h
    simp only [List.reverse_nil,Reps]
    exact⟨trivial,trivial⟩
  | d :: ds,vs,h=>by
    simp only [Reps] at h
    obtain⟨v,us,f1,f2,rfl,e,r1,r2⟩:=h
    obtain⟨rfl,rfl⟩:=List.append_eq_nil_iff.mp e.symm
    have:=Reps.snoc (Reps.rev r2) r1
    simpa using this
noncomputable def Z4P (K:Frag):V->Option Int->Option Int->Hp->VK->Prop:=fun x lo hi H Q=>∃ a xs,x=.ref a /\ SqT K H a xs /\ HT.sIx xs.length 0 lo=0 /\ HT.sIx xs.length xs.length hi=xs.length /\ Q (.ref a) H
theorem Z1Y:SlR X (Z4P X.K):=by
  intro pins s σ H x v vl vu lo hi sl Q I rx hs pl pu h
  obtain⟨a,xs,rfl,hx,h1,h2,q⟩:=h
  cases rx
  obtain⟨its,r,ht,hz⟩:=I.tuple hx
  have hlen:its.toArray.size=xs.length:=by rw [List.size_toArray];exact r.length.symm
  refine⟨"tuple",_,PyProof.Rows.slot_tuple_getitem.lookup,ht.typeIs,?_⟩
  exact HT.getItem_tuple_all ht hs pl pu (by rw [hlen];exact h1) (by rw [hlen];exact h2) ⟨.ref a,H,I,rfl,q⟩
noncomputable def J6 (fa:En->Option D) (fl fh:En->Option (Option Int)):En->Option D:=fun env=>match fa env,fl env,fh env with
  | some (.tup ds),some lo,some hi=>if flats ds=true then some (.tup (cutD ds lo hi)) else none
  | _,_,_=>none
theorem J9 {ds:List D}{lo hi:Option Int}(h1:HT.sIx ds.length 0 lo=0) (h2:HT.sIx ds.length ds.length hi=ds.length):cutD ds lo hi=ds:=by
  unfold cutD
  rw [h1,h2]
  simp
theorem vE {lo hi:Option Expr}{fl fh:En->Option (Option Int)}{p2:Pos}(ha:QE X m1 rs1 a fa) (hl:QO X lo fl) (hu:QO X hi fh):QE X m rs (.Subscript a (.Slice lo hi none p2) pos) (J6 fa fl fh) :=
  .mk (L2.pe_slice (SlR.or B7 Z1Y) ha hl hu) fun σ H Q ⟨env,F,d,ok,e,q⟩=>by
    unfold J6 at e
    split at e
    . rename_i ds l h h1 h2 h3
      split at e
      . rename_i hf
        cases e
        refine⟨env,F,_,ok,h1,fun v H1 f1 s1 r1 c1=>⟨env,F,l,ok.same s1,h2,fun H2 s2=>⟨env,F,h,ok.same (s1.trans s2),h3,fun H3 s3=>?_⟩⟩⟩
        have r1':=r1.same (s2.trans s3)
        have r0:=r1'
        simp only [Rep] at r1'
        obtain⟨p,vs,rfl,hsq,hr⟩:=r1'
        by_cases hw:HT.sIx ds.length 0 l=0 /\ HT.sIx ds.length ds.length h=ds.length
        . right
          refine⟨p,vs,rfl,hsq,by rw [hr.length];exact hw.1,by rw [hr.length];exact hw.2,?_⟩
          rw [J9 hw.1 hw.2] at q
          exact q _ _ [] ((s1.trans s2).trans s3) ((Rep.flat _ _ _ (by simpa only [PD.flat] using hf) r0).2 m) .nil
        . left
          refine⟨p,vs,rfl,hsq,by rw [hr.length];exact hw,fun p' hp=>?_⟩
          obtain⟨g1,g2⟩:=Reps.flat _ _ _ hf hr
          obtain⟨f',e3,e4⟩:=Reps.cut (g2 m) l h
          obtain rfl:f'=[]:=List.eq_nil_iff_forall_not_mem.mpr fun b hb=>(by cases e4 b hb)
          exact q _ _ [] (((s1.trans s2).trans s3).trans (bM hp)) (oM hp e3) .nil
      . cases e
    . cases e
theorem Z0E {te:TE}{k:Nat}{pp:Pos}(he:PE X e te):PE X (.Subscript e (.Slice none none (some (.UnaryOp .USub (.Constant (.int 1) k pp) p3)) p2) pos)
    (fun σ H Q=>te σ H fun x H1=>∃ a xs,x=.ref a /\ SqL X.K H1 a xs /\ ∀ p,H1 p=none->Q (.ref p) (upd H1 p (.lst xs.reverse))):=by
  intro pins s σ H Q I h
  refine Subscript_ (thn (he pins s σ H _ I h) fun v s1 ⟨x,H1,I1,r1,a,xs,ex,hx,q⟩=>?_)
  subst ex
  cases r1
  refine wpAny_Slice ?_
  rw [evalPart_none]
  refine wpAny_pure (wpAny_pure ?_)
  refine thn ((L2.pe_un (pos:=p3) Z00 (L2.pe_int (i:=1) (j:=k) (pos:=pp))) pins s1 σ H1 (fun v H2=>v=.int (-1) /\ H2=H1) I1 ⟨1,rfl,rfl,rfl⟩) fun st s2 h2=>?_
  obtain⟨z,H2,I2,rz,rfl,rfl⟩:=h2
  obtain⟨t,rfl⟩:=rz
  have I3:Inv X pins σ H2 { s2 with heap:=s2.heap.push { cls:=.type "slice",data:=.fields #[.none,.none,.int (-1) t] } }:=I2.kept (t':=s2.toks) fun b ob q=>Heap.get?_push_of_some _ q
  obtain⟨its,r,ht,hz⟩:=I3.list hx
  have hlen:=r.length
  show wpAny (model X.prog X.w) X.A (subscriptTail e (.Slice none none (some (.UnaryOp .USub (.Constant (.int 1) k pp) p3)) p2) (.ref a) (.ref s2.heap.objs.size)) (EP X pins σ Q) X.xe { s2 with heap:=s2.heap.push { cls:=.type "slice",data:=.fields #[.none,.none,.int (-1) t] } }
  refine tail_any (ops:=[.ref a,.ref s2.heap.objs.size]) ht.isList.typeIs slot_list_getitem.lookup ?_ (by with_unfolding_all rfl)
  refine wpAny_getItem_list_slice ht.isList (Heap.IsSliceOf.new ..) .none .none (.int _ _) (by simp) ?_ (by rw [List.size_toArray] <;> omega)
  rw [PySem.W.krv_pick]
  refine⟨.ref (s2.heap.push { cls:=.type "slice",data:=.fields #[.none,.none,.int (-1) t] }).objs.size,_,I3.laid (t':=s2.toks) (o:=.lst xs.reverse) (fun b ob q=>Heap.get?_push_of_some _ q) (Nat.le_refl _) ?_,rfl,q _ (I3.hok.fresh (Nat.le_refl _))⟩
  exact⟨by rw [List.length_reverse];exact hz,_,0,r.reverse,Heap.get?_push_size _ rfl⟩
noncomputable def xI (fa:En->Option D):En->Option D:=fun env=>match fa env with
  | some (.lst ds)=>if flats ds=true then some (.lst ds.reverse) else none
  | _=>none
theorem Z0p {k:Nat}{pp:Pos}(ha:QE X m1 rs1 a fa):QE X m rs (.Subscript a (.Slice none none (some (.UnaryOp .USub (.Constant (.int 1) k pp) p3)) p2) pos) (xI fa) :=
  .mk (Z0E ha) fun σ H Q ⟨env,F,d,ok,e,q⟩=>by
    unfold xI at e
    split at e
    . rename_i ds h1
      split at e
      . rename_i hf
        cases e
        refine⟨env,F,_,ok,h1,fun v H1 f1 s1 r1 c1=>?_⟩
        obtain⟨p,vs,fp',rfl,hsq,hr,hsub⟩:=bW r1
        refine⟨p,vs,rfl,hsq,fun p' hp=>?_⟩
        obtain⟨g1,g2⟩:=Reps.flat _ _ _ hf hr
        exact q _ _ [p'] (s1.trans (bM hp)) (kT hp (Reps.rev (g2 m))) (lN (m:=m) (K:=X.K) s1 hp (Reps.rev (g2 m)) .nil)
      . cases e
    . cases e
end
section
variable {X:Cx}{m m' m1 m2:Bool}{rs rs' rs1 rs2:List Nat}{e a b c:Expr}{f fa fb:En->Option D}{pos p p2 p3 pos':Pos}
end
section
variable {env:En}{fa fb f:En->Option D}{b c:En->Option Bool}{fs:En->Option (List D)}{g h:En->Res}
@[simp] theorem ev_var {i:Nat}:aB i env=(env[i]?).join.map (·.2):=(rfl)
@[simp] theorem ev_C {d:D}:fC d env=some d:=(rfl)
theorem Z1r {C:Int->Int->Prop}{g:Int->Int->D}{i j:Int}(ha:fa env=some (.int i)) (hb:fb env=some (.int j)) (hc:C i j):fI2 C g fa fb env=some (g i j):=by simp [fI2,ha,hb,hc]
theorem O7 {g:Int->Int->D}{i j:Int}(ha:fa env=some (.int i)) (hb:fb env=some (.int j)):fI0 g fa fb env=some (g i j):=by simp [fI0,ha,hb]
@[simp] theorem ev_Flat:bF f env=match f env with | some d=>if flat d=true then some d else none | none=>none:=(rfl)
@[simp] theorem ev_B:fB f env=match f env with | some (.bl b)=>some b | _=>none:=(rfl)
@[simp] theorem ev_OfB:mP b env=(b env).map .bl:=(rfl)
@[simp] theorem ev_And:kG b c env=match b env with | some true=>c env | some false=>some false | none=>none:=(rfl)
@[simp] theorem ev_Or:fOr b c env=match b env with | some false=>c env | some true=>some true | none=>none:=(rfl)
@[simp] theorem ev_Not:mQ b env=(b env).map (!·):=(rfl)
@[simp] theorem ev_Nil:aL env=some []:=(rfl)
@[simp] theorem ev_Cons:aC f fs env=match f env,fs env with | some d,some ds=>some (d :: ds) | _,_=>none:=(rfl)
@[simp] theorem ev_Tup:kF fs env=match fs env with | some ds=>if ds.length <= 1000 then some (.tup ds) else none | none=>none:=(rfl)
@[simp] theorem ev_Lst:jN fs env=match fs env with | some ds=>if ds.length <= 1000 then some (.lst ds) else none | none=>none:=(rfl)
@[simp] theorem ev_BI {p:Int->Int->Bool}:fBI p fa fb env=match fa env,fb env with | some (.int i),some (.int j)=>some (p i j) | _,_=>none:=(rfl)
@[simp] theorem ev_IsN {neg:Bool}:uM neg fa env=match fa env with | some .non=>some (!neg) | some _=>some neg | none=>none:=(rfl)
@[simp] theorem ev_Eq:fEq fa fb env=match fa env,fb env with | some x,some y=>eqN 8 x y | _,_=>none:=(rfl)
@[simp] theorem ev_Ix : fIx fa fb env = match fa env, fb env with
  | some (.lst ds),some (.int i)=>atI ds i
  | some (.tup ds),some (.int i)=>atI ds i
  | some (.str z),some (.int i)=>if z.length <= 1000 then (atI z.cps.toList i).map fun c=>.str ⟨#[c]⟩ else none
  | _,_=>none:=(rfl)
@[simp] theorem ev_I2' {C : Int -> Int -> Prop} {g : Int -> Int -> D} : fI2 C g fa fb env = match fa env, fb env with
  | some (.int i),some (.int j)=>open Classical in if C i j then some (g i j) else none
  | _,_=>none:=(rfl)
@[simp] theorem ev_I0' {g : Int -> Int -> D} : fI0 g fa fb env = match fa env, fb env with
  | some (.int i),some (.int j)=>some (g i j)
  | _,_=>none:=(rfl)
@[simp] theorem ev_Call {F':List D->Option D}{dds:List D}:aQ F' dds fs env=match fs env with | some xs=>F' (xs ++ dds) | none=>none:=by unfold aQ;cases fs env <;> rfl
@[simp] theorem ev_B1 {F':List D->Option D}:fB1 F' fs env=match fs env with | some xs=>F' xs | none=>none:=by unfold fB1;cases fs env <;> rfl
@[simp] theorem ev_NoP:nF env=some none:=(rfl)
@[simp] theorem ev_P:fP f env=match f env with | some (.int i)=>some (some i) | _=>none:=(rfl)
@[simp] theorem ev_seq:dW fa env=match fa env with | some (.lst ds)=>some ds | some (.tup ds)=>some ds | _=>none:=(rfl)
@[simp] theorem ev_TT:fTT env=some true:=(rfl)
theorem ev_Sl {fl fh:En->Option (Option Int)}:fSl fa fl fh env=match fa env,fl env,fh env with
  | some (.lst ds),some lo,some hi=>if flats ds=true then some (.lst (cutD ds lo hi)) else none
  | some (.tup ds),some lo,some hi=>if flats ds=true /\ ¬ (HT.sIx ds.length 0 lo=0 /\ HT.sIx ds.length ds.length hi=ds.length) then some (.tup (cutD ds lo hi)) else none
  | _,_,_=>none:=(rfl)
theorem ev_In:fIn fa fb env=match fa env,fb env with | some x,some y=>inF x y | _,_=>none:=(rfl)
theorem ev_SlW {fl fh:En->Option (Option Int)}:J6 fa fl fh env=match fa env,fl env,fh env with
  | some (.tup ds),some lo,some hi=>if flats ds=true then some (.tup (cutD ds lo hi)) else none
  | _,_,_=>none:=(rfl)
theorem ev_RevSl:xI fa env=match fa env with | some (.lst ds)=>if flats ds=true then some (.lst ds.reverse) else none | _=>none:=(rfl)
theorem ev_InK:J8 fa fb env=match fa env,fb env with
  | some x,some (.dk ks ds)=>match keyOf x with
    | some k=>some (wX k ks)
    | none=>none
  | _,_=>none:=(rfl)
theorem ev_Bits:zQ fa env=match fa env with | some (.int i)=>some (.int ((Builtin.Int.intBits i:Nat):Int)) | _=>none:=(rfl)
@[simp] theorem ev_rNext:cK env=.next env:=(rfl)
@[simp] theorem ev_rIf:rIf c g h env=match c env with | some true=>g env | some false=>h env | none=>.bad:=(rfl)
@[simp] theorem ev_rRet:cD f env=match f env with | some d=>.ret d | none=>.bad:=(rfl)
@[simp] theorem ev_rSet {i:Nat}:bV i f env=match f env with | some d=>.next (env.set i (some (true,d))) | none=>.bad:=(rfl)
@[simp] theorem ev_rSeq:aO g h env=match g env with | .next env'=>h env' | r=>r:=(rfl)
end
noncomputable def LI (xs:List Int):D:=.lst (xs.map .int)
theorem eqN_int (n:Nat) (a b:Int):eqN (n + 1) (.int a) (.int b)=some (decide (a=b)):=by simp only [eqN];congr
theorem eqN_str (n:Nat) (a b:Str):eqN (n + 1) (.str a) (.str b)=some (a == b):=by simp only [eqN]
theorem eqN_bl (n:Nat) (a b:Bool):eqN (n + 1) (.bl a) (.bl b)=some (a == b):=by simp only [eqN]
theorem eqN_non {n:Nat}:eqN (n + 1) .non .non=some true:=by simp only [eqN]
theorem eqN_tnon {n:Nat}{xs:List D}:eqN (n + 1) (.tup xs) .non=some false:=by simp only [eqN]
theorem eqN_tup (n:Nat) (xs ys:List D):eqN (n + 1) (.tup xs) (.tup ys)=(eqL (eqN n) xs ys).map (· && xs.length == ys.length):=by simp only [eqN]
theorem pJ (n:Nat) (xs ys:List D):eqN (n + 1) (.lst xs) (.lst ys)=if xs.length=ys.length then eqL (eqN n) xs ys else some false:=by simp only [eqN]
theorem eqL_cons {f:D->D->Option Bool}{x y:D}{xs ys:List D}:eqL f (x :: xs) (y :: ys)=match f x y,eqL f xs ys with | some a,some b=>some (a && b) | _,_=>none:=by rw [eqL];try (cases f x y <;> cases eqL f xs ys <;> rfl)
theorem eqL_nil {f:D->D->Option Bool}{ys:List D}:eqL f [] ys=some true:=by simp only [eqL]
theorem eqL_nilL {f:D->D->Option Bool}{xs:List D}:eqL f xs []=some true:=by cases xs <;> simp only [eqL]
theorem pK {f:D->D->Option Bool}:∀ {xs:List D},(∀ x ∈ xs,f x x=some true)->eqL f xs xs=some true
  | [],_=>by simp only [eqL]
  | x :: xs,h=>by
    rw [eqL_cons,h x List.mem_cons_self,pK fun y hy=>h y (List.mem_cons_of_mem _ hy)]
    rfl
theorem atI_m3 {α:Type}(x y z:α):atI [x,y,z] (-1)=some z:=rfl
theorem atI_m4 {α:Type}(x y z w:α):atI [x,y,z,w] (-1)=some w:=rfl
theorem atI_0 {α:Type}(x:α) (xs:List α):atI (x :: xs) 0=some x:=gH (j:=0) rfl
theorem atI_1 {α:Type}(x y:α) (xs:List α):atI (x :: y :: xs) 1=some y:=gH (j:=1) rfl
theorem atI_2 {α:Type}(x y z:α) (xs:List α):atI (x :: y :: z :: xs) 2=some z:=gH (j:=2) rfl
theorem atI_3 {α:Type}(x y z w:α) (xs:List α):atI (x :: y :: z :: w :: xs) 3=some w:=gH (j:=3) rfl
theorem nR {a b:Int}(h:-(2 ^ 64) < a) (h2:a < 2 ^ 64):IntMulOk a b:=.of_left (PySem.intBits_le_64 h h2)
theorem nQ {a b:Int}(h:-(2 ^ 64) < b) (h2:b < 2 ^ 64):IntMulOk a b:=.of_right (PySem.intBits_le_64 h h2)
theorem Z06 (n:Nat):HT.sIx (n + 1) 0 (some 1)=1:=by
  have:=HT.sIx_nat (n + 1) 0 1
  simpa using this
theorem Z33 (x:D) (xs:List D):PD.cutD (x :: xs) (some 1) none=xs:=by
  unfold PD.cutD
  rw [List.length_cons,Z06,HT.sIx_none]
  simp
theorem gN (xs:List D) (n:Nat):PD.cutD xs none (some (n:Int))=xs.take n:=by
  unfold PD.cutD
  rw [HT.sIx_nat,HT.sIx_none]
  simp only [List.drop_zero,Nat.sub_zero]
  by_cases h:n <= xs.length
  . rw [Nat.min_eq_left h]
  . rw [Nat.min_eq_right (by omega),List.take_length,List.take_of_length_le (by omega)]
noncomputable def nth (vs:List Int) (a:Int):Int:=vs.getD a.toNat 0
theorem gW {vs:List Int}{a:Int}(h0:0 <= a) (h1:a < vs.length):atI (vs.map D.int) a=some (.int (nth vs a)):=by
  have e:atI (vs.map D.int) ((a.toNat:Nat):Int)=some (.int (nth vs a)):=by
    refine gH ?_
    have hl:a.toNat < vs.length:=by omega
    simp [nth,List.getD,hl]
  rwa [Int.toNat_of_nonneg h0] at e
theorem fL (xs:List Int):flats (xs.map D.int)=true:=lL fun d hd=>by
  obtain⟨i,_,rfl⟩:=List.mem_map.mp hd
  rfl
theorem Z19 {n:Nat}{l:Int}(h0:0 <= l) (h1:l < n):ixN n l=some l.toNat:=by simp [ixN,h0,h1]
theorem zM {t:D->En->Option En}{g:En->Res}(I:Nat->En->Prop):∀ (ds:List D) (k:Nat) (env:En),(∀ i d env,ds[i]? = some d->I (k + i) env->∃ env1 env2,t d env=some env1 /\ (g env1=.next env2 \/ g env1=.cont env2) /\ I (k + i + 1) env2)->I k env ->
    ∃ env',nD t g ds env=.next env' /\ I (k + ds.length) env'
  | [],k,env,_,h=>⟨env,rfl,h⟩
  | d :: ds,k,env,st,h=>by
    obtain⟨env1,env2,h1,h2,h3⟩:=st 0 d env rfl h
    obtain⟨env',h4,h5⟩:=zM I ds (k + 1) env2 (fun i d' e hd hI=>by
      have:=st (i + 1) d' e (by simpa using hd) (by rwa [show k + (i + 1)=k + 1 + i by omega])
      rwa [show k + (i + 1) + 1=k + 1 + i + 1 by omega] at this) h3
    refine⟨env',?_,by rwa [List.length_cons,show k + (ds.length + 1)=k + 1 + ds.length by omega]⟩
    unfold nD
    rw [h1]
    simp only
    rcases h2 with h2 | h2 <;> (rw [h2];exact h4)
theorem cA {L:Nat}{g:En->Res}{ds:List D}{d:D}(h:g (enStart L ds)=.ret d):runF L g ds=some d:=by unfold runF;rw [h]
theorem Z21 {g h:En->Res}{env env':En}{r:Res}(e:g env=.next env') (q:h env'=r):aO g h env=r:=by unfold aO;rw [e];exact q
theorem R9 {rs:List Nat}{src:En->Option (List D)}{t:D->En->Option En}{g:En->Res}{env env':En}{ds:List D}(e:src env=some ds) (h:nD t g ds (fz rs env)=.next env'):dR rs src t g env=.next env':=by unfold dR;rw [e];exact h
theorem fW {f:En->Option D}{env:En}{ds:List D}(h:f env=some (.lst ds)):dW f env=some ds:=by unfold dW;rw [h]
theorem W6 {t:D->En->Option En}{g:En->Res}(I:Nat->En->Prop) {ds:List D}{env:En}(st:∀ i d env,ds[i]? = some d->I i env->∃ env1 env2,t d env=some env1 /\ (g env1=.next env2 \/ g env1=.cont env2) /\ I (i + 1) env2) (h:I 0 env) :
    ∃ env',nD t g ds env=.next env' /\ I ds.length env':=by
  have:=zM I ds 0 env (fun i d e hd hI=>by rw [Nat.zero_add] at *;exact st i d e hd hI) h
  rwa [Nat.zero_add] at this
theorem lW {i:Nat}{f:En->Option D}{k:En->Res}{env:En}{d:D}{r:Res}(h:f env=some d) (q:k (env.set i (some (true,d)))=r):aO (bV i f) k env=r:=by unfold aO bV;rw [h];exact q
theorem C0 {c:En->Option Bool}{g h k:En->Res}{env:En}{r:Res}(e:c env=some true) (q:aO g k env=r):aO (rIf c g h) k env=r:=by
  unfold aO rIf at *;rw [e];exact q
theorem sNo {c:En->Option Bool}{g k:En->Res}{env:En}{r:Res}(e:c env=some false) (q:k env=r):aO (rIf c g cK) k env=r:=by
  unfold aO rIf;rw [e];exact q
theorem sF {f:En->Option D}{k:En->Res}{env:En}{d:D}(h:f env=some d):aO (cD f) k env=.ret d:=by unfold aO cD;rw [h]
theorem fD {f:En->Option D}{env:En}{d:D}(h:f env=some d):cD f env=.ret d:=by unfold cD;rw [h]
theorem wJ {i:Nat}{f:En->Option D}{env:En}{d:D}(h:f env=some d):bV i f env=.next (env.set i (some (true,d))):=by unfold bV;rw [h]
theorem R8 {c:En->Option Bool}{g h:En->Res}{env:En}{r:Res}(e:c env=some true) (q:g env=r):rIf c g h env=r:=by unfold rIf;rw [e];exact q
theorem C2 {c:En->Option Bool}{g h:En->Res}{env:En}{r:Res}(e:c env=some false) (q:h env=r):rIf c g h env=r:=by unfold rIf;rw [e];exact q
theorem lX {i:Nat}{f:En->Option D}{env:En}{d:D}{ds:List D}(h:f env=some d) (e:env[i]? = some (some (true,.lst ds))) (hl:ds.length <= 1000):iW i f env=.next (env.set i (some (true,.lst (ds ++ [d])))):=by unfold iW;rw [h,e];simp [hl]
theorem zN {t:D->En->Option En}{g k:En->Res}{r:Res}(I:Nat->En->Prop):∀ (ds:List D) (n:Nat) (env:En),(∀ i d env,ds[i]? = some d->I (n + i) env->∃ env1,t d env=some env1 /\ ((∃ env2,(g env1=.next env2 \/ g env1=.cont env2) /\ I (n + i + 1) env2) \/ (∃ d',g env1=.ret d' /\ r=.ret d') \/ (∃ env2,g env1=.brk env2 /\ k env2=r)))->I n env ->
    (∀ env',I (n + ds.length) env'->k env'=r)->(match nD t g ds env with | .next e=>k e | r=>r)=r
  | [],n,env,_,h,q=>by simpa [nD] using q env (by simpa using h)
  | d :: ds,n,env,st,h,q=>by
    obtain⟨env1,h1,h2⟩:=st 0 d env rfl h
    unfold nD
    rw [h1]
    rcases h2 with ⟨env2,h3,h4⟩ | ⟨d',h3,rfl⟩ | ⟨env2,h3,h4⟩
    . have ih:=zN (k:=k) (r:=r) I ds (n + 1) env2 (fun i d' e hd hI=>by
        have:=st (i + 1) d' e (by simpa using hd) (by rwa [show n + (i + 1)=n + 1 + i by omega])
        rwa [show n + (i + 1) + 1=n + 1 + i + 1 by omega] at this) h4 (fun e he=>q e (by rwa [List.length_cons,show n + (ds.length + 1)=n + 1 + ds.length by omega]))
      rcases h3 with h3 | h3 <;> (simp only [h3];exact ih)
    . simp only [h3]
    . simp only [h3];exact h4
theorem Z5E {rs:List Nat}{src:En->Option (List D)}{t:D->En->Option En}{g k:En->Res}{r:Res}{env:En}{ds:List D}(hs:src env=some ds) (I:Nat->En->Prop) (h0:I 0 (fz rs env))
    (st:∀ i d env,ds[i]? = some d->I i env->∃ env1,t d env=some env1 /\ ((∃ env2,(g env1=.next env2 \/ g env1=.cont env2) /\ I (i + 1) env2) \/ (∃ d',g env1=.ret d' /\ r=.ret d') \/ (∃ env2,g env1=.brk env2 /\ k env2=r)))
    (hend:∀ env',I ds.length env'->k env'=r):aO (dR rs src t g) k env=r:=by
  unfold aO dR
  rw [hs]
  exact zN I ds 0 _ (fun i d e hd hI=>by rw [Nat.zero_add] at *;exact st i d e hd hI) h0 (fun e he=>hend e (by rwa [Nat.zero_add] at he))
theorem lD {rs:List Nat}{src:En->Option (List D)}{t:D->En->Option En}{g k:En->Res}{r:Res}{env:En}{ds:List D}(hs:src env=some ds) (I:Nat->En->Prop) (h0:I 0 (fz rs env))
    (st:∀ i d env,ds[i]? = some d->I i env->∃ env1 env2,t d env=some env1 /\ g env1=.next env2 /\ I (i + 1) env2)
    (hend:∀ env',I ds.length env'->k env'=r):aO (dR rs src t g) k env=r :=
  Z5E hs I h0 (fun i d e hd hI=>let ⟨e1,e2,a,b,c⟩:=st i d e hd hI;⟨e1,a,.inl ⟨e2,.inl b,c⟩⟩) hend
theorem qJ {fe:En->Option D}{env:En}{α:Type}(φ:α->D) (ψ:α->D):∀ (xs:List α),(∀ x ∈ xs,fe (some (false,φ x) :: env)=some (ψ x))->cR fTT fe env (xs.map φ)=some (xs.map ψ)
  | [],_=>rfl
  | x :: xs,h=>by
    have h1:=h x List.mem_cons_self
    have ih:=qJ φ ψ xs fun y hy=>h y (List.mem_cons_of_mem _ hy)
    simp only [List.map_cons,cR,fTT,h1]
    rw [ih]
theorem eO {fr:List Nat}{src:En->Option (List D)}{fe:En->Option D}{env:En}{α:Type}(φ:α->D) (ψ:α->D) {xs:List α}(hs:src env=some (xs.map φ)) (hl:xs.length <= 1000) (h:∀ x ∈ xs,fe (some (false,φ x) :: iF fr env)=some (ψ x)) :
    bZ fr src fTT fe env=some (.lst (xs.map ψ)):=by
  unfold bZ
  rw [hs]
  simp only [List.length_map,hl,if_true]
  rw [qJ φ ψ xs h]
  rfl
theorem pL {fc:En->Option Bool}{fe:En->Option D}{env:En}{α:Type}(φ:α->D) (ψ:α->D) (p:α->Bool):∀ (xs:List α),(∀ x ∈ xs,fc (some (false,φ x) :: env)=some (p x))->(∀ x ∈ xs,p x=true->fe (some (false,φ x) :: env)=some (ψ x))->cR fc fe env (xs.map φ)=some ((xs.filter p).map ψ)
  | [],_,_=>rfl
  | x :: xs,hc,h=>by
    have h1:=hc x List.mem_cons_self
    have ih:=pL φ ψ p xs (fun y hy=>hc y (List.mem_cons_of_mem _ hy)) fun y hy=>h y (List.mem_cons_of_mem _ hy)
    simp only [List.map_cons,cR,h1]
    cases hp:p x with
    | true =>
      have h2:=h x List.mem_cons_self hp
      simp only [h2,ih,List.filter_cons,hp,if_true,List.map_cons]
    | false=>simp only [ih,List.filter_cons,hp];simp
theorem gG {fr:List Nat}{src:En->Option (List D)}{fc:En->Option Bool}{fe:En->Option D}{env:En}{α:Type}(φ:α->D) (ψ:α->D) (p:α->Bool) {xs:List α}(hs:src env=some (xs.map φ)) (hl:xs.length <= 1000) (hc:∀ x ∈ xs,fc (some (false,φ x) :: iF fr env)=some (p x)) (h:∀ x ∈ xs,p x=true->fe (some (false,φ x) :: iF fr env)=some (ψ x)) :
    bZ fr src fc fe env=some (.lst ((xs.filter p).map ψ)):=by
  unfold bZ
  rw [hs]
  simp only [List.length_map,hl,if_true]
  rw [pL φ ψ p xs hc h]
  rfl
theorem aP {F':List D->Option D}{dds xs:List D}{fs:En->Option (List D)}{env:En}{r:Option D}(h:fs env=some xs) (q:F' (xs ++ dds)=r):aQ F' dds fs env=r:=by unfold aQ;rw [h];exact q
theorem eL {F':List D->Option (List D)}{xs:List D}{fs:En->Option (List D)}{env:En}{r:Option (List D)}(h:fs env=some xs) (q:F' xs=r):sB1 F' fs env=r:=by unfold sB1;rw [h];exact q
theorem jD {F':List D->Option D}{xs:List D}{fs:En->Option (List D)}{env:En}{r:Option D}(h:fs env=some xs) (q:F' xs=r):fB1 F' fs env=r:=by unfold fB1;rw [h];exact q
theorem aW {f:En->Option D}{fs:En->Option (List D)}{env:En}{d:D}{ds:List D}(h:f env=some d) (q:fs env=some ds):aC f fs env=some (d :: ds):=by unfold aC;rw [h,q]
theorem Z5H {j:Int}(h0:0 <= j) (h1:j <= 1000):fJ [.int j]=some ((List.range j.toNat).map fun (k:Nat)=>.int (0 + (k:Int))):=by
  simp only [fJ]
  rw [if_pos (by omega)]
theorem oY {n:Nat}(h1:n <= 1000):fJ [.int (n:Int)]=some ((List.range n).map fun (k:Nat)=>.int (k:Int)):=by
  rw [Z5H (by omega) (by omega),Int.toNat_natCast]
  congr 1
  apply List.map_congr_left
  intro a _
  congr 1;omega
theorem Z0a {j:Int}{n:Nat}(e:j=(n:Int)) (h:n <= 1000):fJ [.int j]=some ((List.range n).map fun (k:Nat)=>.int (k:Int)):=by
  rw [e];exact oY h
theorem bS {α:Type}{l:List α}{i:Nat}{x:α}(h:l[i]? = some x):l.take (i + 1)=l.take i ++ [x]:=by
  obtain⟨hi,e⟩:=List.getElem?_eq_some_iff.mp h
  rw [List.take_succ,h];rfl
theorem dM {α β:Type}{f:α->β}{l:List α}{i:Nat}{y:β}(h:(l.map f)[i]? = some y):∃ x,l[i]? = some x /\ y=f x:=by
  rw [List.getElem?_map] at h
  cases e:l[i]? with
  | none=>rw [e] at h;cases h
  | some x=>rw [e] at h;cases h;exact⟨x,rfl,rfl⟩
theorem E2 {α β:Type}{f:Nat->α->β}{l:List α}{i:Nat}{y:β}(h:(l.mapIdx f)[i]? = some y):∃ x,l[i]? = some x /\ y=f i x:=by
  rw [List.getElem?_mapIdx] at h
  cases e:l[i]? with
  | none=>rw [e] at h;cases h
  | some x=>rw [e] at h;cases h;exact⟨x,rfl,rfl⟩
theorem eM {n i:Nat}{f:Nat->D}{y:D}(h:((List.range n).map f)[i]? = some y):i < n /\ y=f i:=by
  obtain⟨x,h1,rfl⟩:=dM h
  rw [List.getElem?_range] at h1
  . cases h1
    have hi:i < n:=by
      by_cases z:i < n
      . exact z
      . rw [List.getElem?_eq_none (by simp;omega)] at h
        cases h
    exact⟨hi,rfl⟩
  . by_cases z:i < n
    . exact z
    . rw [List.getElem?_eq_none (by simp;omega)] at h
      cases h
theorem Z1Z (n:Nat):(0:Int) < 1 * 2 ^ n:=by rw [Int.one_mul];exact Int.pow_pos (by decide)
theorem wY (n:Nat):(2 ^ n).log2=n:=by
  rw [Nat.log2_eq_iff (Nat.ne_of_gt (Nat.two_pow_pos n))]
  exact⟨Nat.le_refl _,Nat.pow_lt_pow_right (by decide) (Nat.lt_succ_self n)⟩
theorem tP {i:Int}{n:Nat}(h:n < 9000):eR i (1 * 2 ^ n):=by
  refine⟨Z1Z n,?_⟩
  rw [Int.one_mul,Int.natAbs_pow]
  show (2 ^ n).log2 < 9000
  rw [wY];exact h
noncomputable def Wp (r:Res) (Q:Res->Prop):Prop:=Q r
noncomputable def Rt (P:D->Prop):Res->Prop:=fun r=>∃ d,r=.ret d /\ P d
section
variable {Q:Res->Prop}{env:En}{k g h:En->Res}{f:En->Option D}{c:En->Option Bool}{i:Nat}{d:D}{P:D->Prop}
theorem Z08 {L:Nat}{ds:List D}(w:Wp (g (enStart L ds)) (Rt P)):∃ d,runF L g ds=some d /\ P d:=by
  obtain⟨d,e,p⟩:=w
  exact⟨d,cA e,p⟩
theorem jF (e:f env=some d) (q:Wp (k (env.set i (some (true,d)))) Q):Wp (aO (bV i f) k env) Q:=by unfold aO bV;rw [e];exact q
theorem xW (e:f env=some d) (q:Q (.next (env.set i (some (true,d))))):Wp (bV i f env) Q:=by unfold bV;rw [e];exact q
theorem xX (e:c env=some true) (q:Wp (g env) Q):Wp (rIf c g h env) Q:=by unfold rIf at *;rw [e];exact q
theorem qL (e:c env=some false) (q:Wp (h env) Q):Wp (rIf c g h env) Q:=by unfold rIf at *;rw [e];exact q
theorem wNo (e:c env=some false) (q:Wp (k env) Q):Wp (aO (rIf c g cK) k env) Q:=by unfold aO rIf;rw [e];exact q
theorem Z3t (e:f env=some d) (q:Q (.ret d)):Wp (cD f env) Q:=by unfold cD;rw [e];exact q
theorem Z4 (q:Q (.next env)):Wp (cK env) Q:=q
theorem Z5u (q:Wp (g env) fun r=>match r with | .next e=>Wp (k e) Q | r=>Q r):Wp (aO g k env) Q:=by
  unfold aO Wp at *
  cases e:g env <;> rw [e] at q <;> simpa only [e] using q
theorem xY {ds:List D}(h:f env=some d) (e:env[i]? = some (some (true,.lst ds))) (hl:ds.length <= 1000) (q:Q (.next (env.set i (some (true,.lst (ds ++ [d])))))):Wp (iW i f env) Q:=by
  rw [lX h e hl];exact q
theorem Z4r {fk:En->Option D}{ds:List D}{j:Int}(h:f env=some d) (hk:fk env=some (.int j)) (e:env[i]? = some (some (true,.lst ds))) (h0:0 <= j) (h1:j < ds.length) (hf:flats ds=true) (hd:flat d=true) (q:Q (.next (env.set i (some (true,.lst (ds.set j.toNat d)))))):Wp (yL i fk f env) Q:=by
  unfold yL;simp only [h,hk,e,Z19 h0 h1,hf,hd];simpa [Wp] using q
theorem Z1O (M:En->Prop) (h1:Wp (g env) (fun r=>∃ e,r=.next e /\ M e)) (h2:∀ e,M e->Wp (k e) Q):Wp (aO g k env) Q:=by
  obtain⟨e,h3,h4⟩:=h1
  unfold aO
  rw [h3]
  exact h2 e h4
theorem Z3 (e:env[i]? = some (some (true,d))) (q:Q (.ret d)):Wp (jY i env) Q:=by
  unfold jY;simp only [e];exact q
theorem Z4M {L:Nat}{ds:List D}{d:D}(w:Wp (g (enStart L ds)) (fun r=>r=.ret d)):runF L g ds=some d:=cA w
theorem wEq {r:Res}(e:g env=r) (q:Q r):Wp (g env) Q:=by rw [e];exact q
theorem Z2 {j:Nat}{xs ys:List D}(e1:env[i]? = some (some (true,.lst xs))) (e2:f env=some (.lst ys)) (h1:flats xs=true) (h2:xs.length + ys.length <= 1000) (q:Q (.next (env.set j (some (true,.lst (xs ++ ys)))))):Wp (iA j i f env) Q:=by
  unfold iA;simp only [e1,e2,h1,h2,and_self,if_true];exact q
noncomputable def Tn (I:En->Prop) (k:En->Res) (Q:Res->Prop):Res->Prop
  | .next e=>I e
  | .cont e=>I e
  | .brk e=>Wp (k e) Q
  | .ret d=>Q (.ret d)
  | .bad=>False
theorem O5 {t:D->En->Option En}(I:Nat->En->Prop):∀ (ds:List D) (n:Nat) (env:En),(∀ i d env,ds[i]? = some d->I (n + i) env->∃ env1,t d env=some env1 /\ Wp (g env1) (Tn (I (n + i + 1)) k Q))->I n env ->
    (∀ env',I (n + ds.length) env'->Wp (k env') Q)->Wp (match nD t g ds env with | .next e=>k e | r=>r) Q
  | [],n,env,_,h,q=>by simpa [nD] using q env (by simpa using h)
  | d :: ds,n,env,st,h,q=>by
    obtain⟨env1,h1,h2⟩:=st 0 d env rfl h
    unfold nD
    rw [h1]
    have ih:∀ env2,I (n + 0 + 1) env2->Wp (match nD t g ds env2 with | .next e=>k e | r=>r) Q:=fun env2 h4=>O5 I ds (n + 1) env2 (fun i d' e hd hI=>by
        have:=st (i + 1) d' e (by simpa using hd) (by rwa [show n + (i + 1)=n + 1 + i by omega])
        rwa [show n + (i + 1) + 1=n + 1 + i + 1 by omega] at this) h4 (fun e he=>q e (by rwa [List.length_cons,show n + (ds.length + 1)=n + 1 + ds.length by omega]))
    unfold Wp at h2
    cases e1:g env1 with
    | next e=>rw [e1] at h2;simp only [e1];exact ih e h2
    | cont e=>rw [e1] at h2;simp only [e1];exact ih e h2
    | brk e=>rw [e1] at h2;simp only [e1];exact h2
    | ret d'=>rw [e1] at h2;simp only [e1];exact h2
    | bad=>rw [e1] at h2;exact h2.elim
theorem Z4t {rs:List Nat}{src:En->Option (List D)}{t:D->En->Option En}{ds:List D}(hs:src env=some ds) (I:Nat->En->Prop) (h0:I 0 (fz rs env))
    (st:∀ i d env,ds[i]? = some d->I i env->∃ env1,t d env=some env1 /\ Wp (g env1) (Tn (I (i + 1)) k Q))
    (hend:∀ env',I ds.length env'->Wp (k env') Q):Wp (aO (dR rs src t g) k env) Q:=by
  unfold aO dR
  rw [hs]
  exact O5 I ds 0 _ (fun i d e hd hI=>by rw [Nat.zero_add] at *;exact st i d e hd hI) h0 (fun e he=>hend e (by rwa [Nat.zero_add] at he))
theorem Z4s {rs:List Nat}{src:En->Option (List D)}{t:D->En->Option En}{ds:List D}(hs:src env=some ds) (I:Nat->En->Prop) (h0:I 0 (fz rs env))
    (st:∀ i d env,ds[i]? = some d->I i env->∃ env1,t d env=some env1 /\ Wp (g env1) (Tn (I (i + 1)) cK Q))
    (hend:∀ env',I ds.length env'->Q (.next env')):Wp (dR rs src t g env) Q:=by
  have:=Z4t (k:=cK) (Q:=Q) hs I h0 st hend
  unfold aO at this
  cases e:dR rs src t g env with
  | _=>simp only [e,cK] at this ⊢;exact this
theorem oS {rs:List Nat}{src:En->Option (List D)}{t:D->En->Option En}{ds:List D}(hs:src env=some ds) (I:Nat->En->Prop) (h0:I 0 (fz rs env))
    (st:∀ i d env (R:Res->Prop),ds[i]? = some d->I i env->(∀ e,I (i + 1) e->R (.next e))->∃ env1,t d env=some env1 /\ Wp (g env1) R)
    (hend:∀ env',I ds.length env'->Wp (k env') Q):Wp (aO (dR rs src t g) k env) Q :=
  Z4t hs I h0 (fun i d e hd hI=>st i d e _ hd hI fun _ z=>z) hend
theorem Z5 {rs:List Nat}{src:En->Option (List D)}{t:D->En->Option En}{ds:List D}(hs:src env=some ds) (I:Nat->En->Prop) (h0:I 0 (fz rs env))
    (st:∀ i d env (R:Res->Prop),ds[i]? = some d->I i env->(∀ e,I (i + 1) e->R (.next e))->∃ env1,t d env=some env1 /\ Wp (g env1) R)
    (hend:∀ env',I ds.length env'->Q (.next env')):Wp (dR rs src t g env) Q :=
  Z4s hs I h0 (fun i d e hd hI=>st i d e _ hd hI fun _ z=>z) hend
end
end PD
namespace G
open PySem PySem.Spec PyProof.Rows L2 PD
inductive Kd where | and | or | xor deriving DecidableEq
noncomputable def Kd.s:Kd->Str | .and => "and" | .or => "or" | .xor => "xor"
inductive Row where | fix (b:Int) | not (a:Int) | bin (k:Kd) (a b:Int)
noncomputable def Row.d:Row->D
  | .fix b=>.tup [.str "fix",.int b]
  | .not a=>.tup [.str "not",.int a]
  | .bin k a b=>.tup [.str k.s,.int a,.int b]
inductive Flt where | none | wire (w b:Int) | leg (w l b:Int)
noncomputable def Flt.d:Flt->D
  | .none=>.non
  | .wire w b=>.tup [.str "wire",.int w,.int b]
  | .leg w l b=>.tup [.str "leg",.int w,.int l,.int b]
theorem Z3B:((Str.ofString "wire") == (Str.ofString "leg"))=false:=by decide +kernel
theorem Z3C:((Str.ofString "leg") == (Str.ofString "wire"))=false:=by decide +kernel
theorem Z4F:((Str.ofString "wire") == (Str.ofString "wire"))=true:=by decide +kernel
theorem Z23:((Str.ofString "fix") == (Str.ofString "fix"))=true:=by decide +kernel
theorem R4:((Str.ofString "not") == (Str.ofString "fix"))=false:=by decide +kernel
theorem R5 (k:Kd):(k.s == (Str.ofString "fix"))=false:=by cases k <;> decide +kernel
theorem Z4I (k:Kd):(k.s == (Str.ofString "not"))=false:=by cases k <;> decide +kernel
theorem Z5D:((Str.ofString "not") == (Str.ofString "not"))=true:=by decide +kernel
theorem Z4J (k:Kd):(k.s == (Str.ofString "and"))=decide (k=.and):=by cases k <;> decide +kernel
theorem Z4H (k:Kd):(k.s == (Str.ofString "or"))=decide (k=.or):=by cases k <;> decide +kernel
theorem Z4G:((Str.ofString "leg") == (Str.ofString "leg"))=true:=by decide +kernel
theorem Z09 (r:Row):flat r.d=true:=by cases r <;> rfl
theorem nE (f:Flt):flat f.d=true:=by cases f <;> rfl
theorem R6 (rows:List Row):flats (rows.map Row.d)=true:=lL fun d hd=>by
  obtain⟨r,_,rfl⟩:=List.mem_map.mp hd
  exact Z09 r
noncomputable def bP (v w o:Int):Flt->Int
  | .wire w' b=>if w'=w then o * b else v
  | _=>v
noncomputable def Row.ws:Row->List Int
  | .fix _=>[]
  | .not a=>[a]
  | .bin _ a b=>[a,b]
noncomputable def legs (r:Row) (w:Int) (vs:List Int) (o:Int) (f:Flt):List Int:=match f with
  | .leg w' l b=>if w'=w then (r.ws.map (nth vs)).set l.toNat (o * b) else r.ws.map (nth vs)
  | _=>r.ws.map (nth vs)
noncomputable def iO (r:Row) (ls:List Int) (o:Int):Int:=match r with
  | .fix b=>o * b
  | .not _=>Builtin.bitXor o (nth ls 0)
  | .bin .and _ _=>Builtin.bitAnd (nth ls 0) (nth ls 1)
  | .bin .or _ _=>Builtin.bitOr (nth ls 0) (nth ls 1)
  | .bin .xor _ _=>Builtin.bitXor (nth ls 0) (nth ls 1)
noncomputable def bQ (C:Addr) (ins:Int) (rows:List Row) (outs:List Int):D:=.obj C ["ins","rows","outs"] [.int ins,.lst (rows.map Row.d),LI outs]
theorem pG {C:Addr}{ins:Int}{rows:List Row}{outs:List Int}{fa:En->Option D}{env:En}(h:fa env=some (bQ C ins rows outs)):jO C "rows" fa env=some (.lst (rows.map Row.d)):=by
  have h1:(Str.ofString "rows" == Str.ofString "ins")=false:=by decide +kernel
  simp [jO,h,bQ,List.lookup_cons,h1]
theorem pH {C:Addr}{ins:Int}{rows:List Row}{outs:List Int}{fa:En->Option D}{env:En}(h:fa env=some (bQ C ins rows outs)):jO C "ins" fa env=some (.int ins):=by
  simp [jO,h,bQ,List.lookup_cons]
theorem zO {C:Addr}{ins:Int}{rows:List Row}{outs:List Int}{fa:En->Option D}{env:En}(h:fa env=some (bQ C ins rows outs)):jO C "outs" fa env=some (LI outs):=by
  have h1:(Str.ofString "outs" == Str.ofString "ins")=false:=by decide +kernel
  have h2:(Str.ofString "outs" == Str.ofString "rows")=false:=by decide +kernel
  simp [jO,h,bQ,List.lookup_cons,h1,h2]
noncomputable def bU (o:Int) (f:Flt):List Int->List Int->List Int
  | vs,[]=>vs
  | vs,s :: r=>bU o f (vs ++ [bP s vs.length o f]) r
noncomputable def eG (o:Int) (f:Flt):List Int->List Row->List Int
  | vs,[]=>vs
  | vs,r :: rs=>eG o f (vs ++ [bP (iO r (legs r vs.length vs o f) o) vs.length o f]) rs
theorem gX (o:Int) (f:Flt):∀ (ss vs:List Int),(bU o f vs ss).length=vs.length + ss.length
  | [],vs=>by simp [bU]
  | s :: r,vs=>by simp only [bU];rw [gX o f r];simp;omega
theorem pR (o:Int) (f:Flt):∀ (rs:List Row) (vs:List Int),(eG o f vs rs).length=vs.length + rs.length
  | [],vs=>by simp [eG]
  | r :: rs,vs=>by simp only [eG];rw [pR o f rs];simp;omega
theorem lS (o:Int) (f:Flt):∀ (ss vs:List Int) (s:Int),bU o f vs (ss ++ [s])=bU o f vs ss ++ [bP s (bU o f vs ss).length o f]
  | [],vs,s=>by simp [bU]
  | a :: ss,vs,s=>by simp only [List.cons_append,bU];rw [lS o f ss]
theorem oH (o:Int) (f:Flt):∀ (rs:List Row) (vs:List Int) (r:Row),eG o f vs (rs ++ [r])=eG o f vs rs ++ [bP (iO r (legs r (eG o f vs rs).length (eG o f vs rs) o f) o) (eG o f vs rs).length o f]
  | [],vs,s=>by simp [eG]
  | a :: ss,vs,s=>by simp only [List.cons_append,eG];rw [oH o f ss]
noncomputable def RowOk (n:Int):Row->Prop
  | .fix b=>b=0 \/ b=1
  | .not a=>0 <= a /\ a < n
  | .bin _ a b=>(0 <= a /\ a < n) /\ 0 <= b /\ b < n
theorem RowOk.ws {n:Int}{r:Row}(h:RowOk n r):∀ a ∈ r.ws,0 <= a /\ a < n:=by
  cases r with
  | fix b=>intro a ha;cases ha
  | not a=>intro b hb;simp [Row.ws] at hb;subst hb;exact h
  | bin k a b=>intro c hc;simp [Row.ws] at hc;exact hc.elim (fun z=>z ▸ h.1) (fun z=>z ▸ h.2)
noncomputable def RowsOk (ins:Nat) (rows:List Row):Prop:=∀ k r,rows[k]? = some r->RowOk ((ins + k:Nat):Int) r
structure FltOk (ins:Nat) (rows:List Row) (f:Flt):Prop where
  w:∀ w b,f=.wire w b->b=0 \/ b=1
  l:∀ w l b,f=.leg w l b->b=0 \/ b=1
  leg:∀ w l b k r,f=.leg w l b->rows[k]? = some r->w=((ins + k:Nat):Int)->0 <= l /\ l < r.ws.length
theorem FltOk.no {ins:Nat}{rows:List Row}:FltOk ins rows .none:=⟨fun _ _ z=>(by cases z),fun _ _ _ z=>(by cases z),fun _ _ _ _ _ z=>(by cases z)⟩
theorem Z0X (r:Row) (w:Int) (vs:List Int) (o:Int) (f:Flt):(legs r w vs o f).length=r.ws.length:=by
  unfold legs
  split
  . split <;> simp
  . simp
theorem pO {o b:Int}(h:b=0 \/ b=1):IntMulOk o b:=by rcases h with z | z <;> (subst z;exact nQ (by decide) (by decide))
noncomputable def iN (n:Nat) (g:Int):List Int:=(List.range n).map fun k=>(g / 2 ^ k) % 2
noncomputable def tV (ins:Nat) (rows:List Row) (g:Int) (f:Flt):List Int:=eG 1 f (bU 1 f [] (iN ins g)) rows
noncomputable def iU (o:Int) (f:Flt) (ss:List Int) (rows:List Row):List Int:=eG o f (bU o f [] ss) rows
theorem nJ (o:Int) (f:Flt) (ss:List Int) (rows:List Row):(iU o f ss rows).length=ss.length + rows.length:=by
  unfold iU;rw [pR,gX];simp
theorem oG (o:Int) (f:Flt):∀ (rs:List Row) (vs:List Int) (k:Nat),k <= rs.length->(eG o f vs rs).take (vs.length + k)=eG o f vs (rs.take k)
  | [],vs,k,h=>by
    have:k=0:=by simpa using h
    subst this
    simp [eG]
  | r :: rs,vs,0,h=>by
    have ih:=oG o f rs (vs ++ [bP (iO r (legs r vs.length vs o f) o) vs.length o f]) 0 (Nat.zero_le _)
    simp only [eG,List.take_zero,Nat.add_zero] at ih ⊢
    have e:(eG o f (vs ++ [bP (iO r (legs r vs.length vs o f) o) vs.length o f]) rs).take vs.length=((eG o f (vs ++ [bP (iO r (legs r vs.length vs o f) o) vs.length o f]) rs).take (vs ++ [bP (iO r (legs r vs.length vs o f) o) vs.length o f]).length).take vs.length:=by
      rw [List.take_take];congr 1;simp
    rw [e,ih]
    simp
  | r :: rs,vs,k + 1,h=>by
    have ih:=oG o f rs (vs ++ [bP (iO r (legs r vs.length vs o f) o) vs.length o f]) k (by simpa using h)
    simp only [eG,List.take_succ_cons]
    rw [<- ih]
    congr 1
    simp;omega
theorem lR (o:Int) (f:Flt):∀ (ss vs:List Int) (k:Nat),k <= ss.length->(bU o f vs ss).take (vs.length + k)=bU o f vs (ss.take k)
  | [],vs,k,h=>by
    have:k=0:=by simpa using h
    subst this
    simp [bU]
  | s :: ss,vs,0,h=>by
    have ih:=lR o f ss (vs ++ [bP s vs.length o f]) 0 (Nat.zero_le _)
    simp only [bU,List.take_zero,Nat.add_zero] at ih ⊢
    have e:(bU o f (vs ++ [bP s vs.length o f]) ss).take vs.length=((bU o f (vs ++ [bP s vs.length o f]) ss).take (vs ++ [bP s vs.length o f]).length).take vs.length:=by
      rw [List.take_take];congr 1;simp
    rw [e,ih]
    simp
  | s :: ss,vs,k + 1,h=>by
    have ih:=lR o f ss (vs ++ [bP s vs.length o f]) k (by simpa using h)
    simp only [bU,List.take_succ_cons]
    rw [<- ih]
    congr 1
    simp;omega
theorem jV {o:Int}{f:Flt}{ss:List Int}{rows:List Row}{k:Nat}(h:k <= rows.length):(iU o f ss rows).take (ss.length + k)=iU o f ss (rows.take k):=by
  have:=oG o f rows (bU o f [] ss) k h
  rw [gX] at this
  simpa [iU] using this
theorem uA {o:Int}{f:Flt}{ss:List Int}{rows:List Row}{k:Nat}(h:k <= ss.length):(iU o f ss rows).take k=bU o f [] (ss.take k):=by
  have h1:=jV (o:=o) (f:=f) (ss:=ss) (rows:=rows) (k:=0) (Nat.zero_le _)
  have e:(iU o f ss rows).take k=((iU o f ss rows).take (ss.length + 0)).take k:=by rw [List.take_take];congr 1;omega
  have h2:=lR o f ss [] k h
  rw [e,h1]
  simpa [iU,eG] using h2
theorem uZ {α:Type}{l a:List α}{x:α}{i:Nat}(h:l.take (i + 1)=a ++ [x]) (hl:i < l.length):l.take i=a /\ l[i]? = some x:=by
  have h1:l.take (i + 1)=l.take i ++ [l[i]]:=by rw [List.take_succ,List.getElem?_eq_getElem hl];rfl
  rw [h1] at h
  obtain⟨h2,h3⟩:=List.append_inj' h rfl
  refine⟨h2,?_⟩
  rw [List.getElem?_eq_getElem hl]
  simpa using h3
theorem rW {o:Int}{f:Flt}{ss:List Int}{rows:List Row}{i:Nat}{s:Int}(h:ss[i]? = some s):(iU o f ss rows)[i]? = some (bP s i o f):=by
  have hi:i < ss.length:=(List.getElem?_eq_some_iff.mp h).1
  have h1:=uA (o:=o) (f:=f) (rows:=rows) (show i + 1 <= ss.length from hi)
  rw [bS h,lS,gX] at h1
  have h2:=(uZ h1 (by rw [nJ];omega)).2
  rw [h2]
  congr 2
  simp;omega
theorem pQ {o:Int}{f:Flt}{ss:List Int}{rows:List Row}{k:Nat}{r:Row}(h:rows[k]? = some r) :
    (iU o f ss rows)[ss.length + k]? = some (bP (iO r (legs r ((ss.length + k:Nat):Int) ((iU o f ss rows).take (ss.length + k)) o f) o) ((ss.length + k:Nat):Int) o f):=by
  have hk:k < rows.length:=(List.getElem?_eq_some_iff.mp h).1
  have h1:=jV (o:=o) (f:=f) (ss:=ss) (show k + 1 <= rows.length from hk)
  have h0:=jV (o:=o) (f:=f) (ss:=ss) (show k <= rows.length from Nat.le_of_lt hk)
  have hl:(iU o f ss (rows.take k)).length=ss.length + k:=by rw [nJ];simp;omega
  rw [bS h] at h1
  unfold iU at h1 h0 hl
  rw [oH,hl] at h1
  have h2:=(uZ (l:=iU o f ss rows) (i:=ss.length + k) (by rw [<- h1];rfl) (by rw [nJ];omega)).2
  rw [h2]
  show _=some (bP (iO r (legs r _ ((eG o f (bU o f [] ss) rows).take (ss.length + k)) o f) o) _ o f)
  rw [h0]
noncomputable def Bt (x:Int):Prop:=x=0 \/ x=1
instance (x:Int):Decidable (Bt x):=inferInstanceAs (Decidable (x=0 \/ x=1))
theorem Z34 {x:Int}(h:Bt x):Builtin.bitXor 1 x=1 - x:=by rcases h with z | z <;> (subst z;decide)
theorem K3 {x:Int}(h:Bt x):Bt (Builtin.bitXor 1 x):=by rw [Z34 h];rcases h with z | z <;> (subst z;decide)
theorem Y2 {x y:Int}(h:Bt x) (k:Bt y):Bt (Builtin.bitAnd x y):=by rcases h with z | z <;> rcases k with w | w <;> (subst z;subst w;decide)
theorem Z1B {x y:Int}(h:Bt x) (k:Bt y):Bt (Builtin.bitOr x y):=by rcases h with z | z <;> rcases k with w | w <;> (subst z;subst w;decide)
theorem Y1 {x y:Int}(h:Bt x) (k:Bt y):Bt (Builtin.bitXor x y):=by rcases h with z | z <;> rcases k with w | w <;> (subst z;subst w;decide)
theorem iR {vs:List Int}{a:Int}{i:Nat}{x:Int}(h:vs[i]? = some x) (e:a=(i:Int)):nth vs a=x:=by
  subst e
  simp [nth,List.getD,h]
theorem wV {vs:List Int}{a:Int}(h0:0 <= a) (h1:a < vs.length):nth vs a ∈ vs:=by
  have hl:a.toNat < vs.length:=by omega
  have:vs[a.toNat]? = some (vs[a.toNat]):=List.getElem?_eq_getElem hl
  unfold nth
  rw [List.getD,this]
  exact List.getElem_mem hl
theorem lY {vs:List Int}(h:∀ x ∈ vs,Bt x) (a:Int):Bt (nth vs a):=by
  unfold nth
  cases e:vs[a.toNat]? with
  | none=>left;simp [List.getD,e]
  | some x=>rw [List.getD,e];exact h x (List.mem_of_getElem? e)
theorem N0 {r:Row}{w:Int}{vs:List Int}{f:Flt}(h:∀ x ∈ vs,Bt x) (hf:∀ w l b,f=.leg w l b->b=0 \/ b=1):∀ x ∈ legs r w vs 1 f,Bt x:=by
  have h0:∀ x ∈ r.ws.map (nth vs),Bt x:=fun x hx=>by
    obtain⟨a,_,rfl⟩:=List.mem_map.mp hx
    exact lY h a
  intro x hx
  unfold legs at hx
  split at hx
  . rename_i w' l b
    split at hx
    . rcases List.mem_or_eq_of_mem_set hx with z | z
      . exact h0 x z
      . rw [z,Int.one_mul];exact hf _ _ _ rfl
    . exact h0 x hx
  . exact h0 x hx
theorem Z2V {r:Row}{ls:List Int}{n:Int}(h:∀ x ∈ ls,Bt x) (hr:RowOk n r):Bt (iO r ls 1):=by
  cases r with
  | fix b=>show Bt (1 * b);rw [Int.one_mul];exact hr
  | not a=>exact K3 (lY h 0)
  | bin k a b=>cases k with
    | and=>exact Y2 (lY h 0) (lY h 1)
    | or=>exact Z1B (lY h 0) (lY h 1)
    | xor=>exact Y1 (lY h 0) (lY h 1)
theorem vH {v w:Int}{f:Flt}(h:Bt v) (hf:∀ w b,f=.wire w b->b=0 \/ b=1):Bt (bP v w 1 f):=by
  unfold bP
  split
  . split
    . rw [Int.one_mul];exact hf _ _ rfl
    . exact h
  . exact h
theorem sB {f:Flt}(hf:∀ w b,f=.wire w b->b=0 \/ b=1):∀ (ss vs:List Int),(∀ x ∈ vs,Bt x)->(∀ x ∈ ss,Bt x)->∀ x ∈ bU 1 f vs ss,Bt x
  | [],vs,h,_=>h
  | s :: ss,vs,h,hs=>by
    simp only [bU]
    refine sB hf ss _ (fun x hx=>?_) fun x hx=>hs x (List.mem_cons_of_mem _ hx)
    rcases List.mem_append.mp hx with z | z
    . exact h x z
    . have:x=bP s vs.length 1 f:=by simpa using z
      rw [this];exact vH (hs s List.mem_cons_self) hf
theorem yI {f:Flt}(hf:∀ w b,f=.wire w b->b=0 \/ b=1) (hl:∀ w l b,f=.leg w l b->b=0 \/ b=1):∀ (rs:List Row) (vs:List Int),(∀ x ∈ vs,Bt x)->(∀ r ∈ rs,∃ n,RowOk n r)->∀ x ∈ eG 1 f vs rs,Bt x
  | [],vs,h,_=>h
  | r :: rs,vs,h,hs=>by
    simp only [eG]
    refine yI hf hl rs _ (fun x hx=>?_) fun x hx=>hs x (List.mem_cons_of_mem _ hx)
    rcases List.mem_append.mp hx with z | z
    . exact h x z
    . have:x=bP (iO r (legs r vs.length vs 1 f) 1) vs.length 1 f:=by simpa using z
      obtain⟨n,hn⟩:=hs r List.mem_cons_self
      rw [this];exact vH (Z2V (N0 h hl) hn) hf
theorem xC (n:Nat) (g:Int):∀ x ∈ iN n g,Bt x:=fun x hx=>by
  obtain⟨k,_,rfl⟩:=List.mem_map.mp hx
  have h0:=Int.emod_nonneg (g / 2 ^ k) (show (2:Int) ≠ 0 by decide)
  have h1:=Int.emod_lt_of_pos (g / 2 ^ k) (show (0:Int) < 2 by decide)
  show _ \/ _
  omega
theorem Z1I {ins:Nat}{rows:List Row}{g:Int}{f:Flt}(hr:RowsOk ins rows) (hf:FltOk ins rows f):∀ x ∈ tV ins rows g f,Bt x:=by
  refine yI hf.w hf.l rows _ (sB hf.w _ _ (fun x hx=>(by cases hx)) (xC ins g)) fun r hr'=>?_
  obtain⟨k,hk⟩:=List.getElem?_of_mem hr'
  exact⟨_,hr k r hk⟩
theorem Z1H {ins:Nat}{rows:List Row}{g:Int}{f:Flt}{i:Nat}(h:i < ins):(tV ins rows g f)[i]? = some (bP (g / 2 ^ i % 2) i 1 f) :=
  rW (ss:=iN ins g) (by simp [iN,h])
theorem Y4 {ins:Nat}{rows:List Row}{g:Int}{f:Flt}{k:Nat}{r:Row}(h:rows[k]? = some r) :
    (tV ins rows g f)[ins + k]? = some (bP (iO r (legs r ((ins + k:Nat):Int) ((tV ins rows g f).take (ins + k)) 1 f) 1) ((ins + k:Nat):Int) 1 f):=by
  have:=pQ (o:=1) (f:=f) (ss:=iN ins g) h
  have gl:(iN ins g).length=ins:=by simp [iN]
  rw [gl] at this
  exact this
theorem Z1u (n:Nat) (xs:List Int):eqN (n + 2) (LI xs) (LI xs)=some true:=by
  unfold LI
  rw [pJ,if_pos rfl]
  refine pK fun d hd=>?_
  obtain⟨i,_,rfl⟩:=List.mem_map.mp hd
  rw [eqN_int];simp
end G
namespace PD
open PySem PySem.Spec PyProof.Rows L2
section
variable {prog:Program}{w:World}{A:Around}{E:Value->Shared->Prop}{s:Shared}{b l:Addr}
end
section
variable {X:Cx}{m m1:Bool}{rs rs1:List Nat}{a e:Expr}{fa:En->Option D}{pos pos2 p p2:Pos}
end
section
variable {prog:Program}{w:World}{K:Type}[DecidableEq K] {knd:HeapKind prog w K}{A:Around}{E:Value->Shared->Prop}{s:Shared}
theorem Z22 {d b:Addr}{tbl:List (K × Addr × Value)}{k:K}{u:Value}{Z:Value->Shared->Prop}(room:knd.room A) (isK:knd.is s.heap k b) (dd:s.heap.DictOfH knd d tbl) (few:tbl.length <= sizeLine)
    (old:∀ p,atKey tbl k=some p->Z p.2 { s with toks:=s.toks + knd.draws k })
    (new:atKey tbl k=none->∀ hp,hp.DictOfH knd d (storedH tbl k b u)->Heap.SameBut d s.heap hp->Z u { s with heap:=hp,toks:=s.toks + knd.draws k }) :
    wpAny (model prog w) A (dictSetDefault d (.ref b) u) Z E s:=by
  obtain⟨ob,ents,epo,atD,clsD,datD,eqn,isA,nod⟩:=dd
  unfold dictSetDefault
  try with_reducible refine wpAny_holding ?_
  refine wpAny_bind (knd.pyHash room isK (wpAny_bind (wpAny_dictFind_heap (s:={ s with toks:=s.toks + knd.draws k }) room isK atD datD eqn isA nod (fun no=>?_) fun j p hj=>?_)))
  . have away:k ∉ tbl.map (·.1):=not_mem_keys_of_get no
    have none':=atKey_none_of_get no
    refine wpAny_bind (wpAny_rule ?_)
    refine wpAny_bind (wpAny_updateDictKeys (hz:=by have q:=size_of_entries eqn;omega) (s:={ s with toks:=s.toks + knd.draws k }) atD datD (wpAny_pure (new none' _ ⟨_,_,epo + 1,Heap.get?_update_self _ atD (Obj.isFreed_of_dict (Obj.data_mapDictKeys datD _)),
      clsD.mapDictKeys _,Obj.data_mapDictKeys datD _,?_,?_,?_⟩ (Heap.SameBut.update ..))))
    . rw [storedH_new none'];simp [eqn,entryOfKey]
    . rw [storedH_new none'];intro x hx
      rcases List.mem_append.mp hx with z | z
      . exact knd.keeps (isA x z) atD datD (Heap.SameBut.update ..)
      . obtain rfl:=List.mem_singleton.mp z
        exact knd.keeps isK atD datD (Heap.SameBut.update ..)
    . rw [storedH_new none',List.map_append,List.nodup_append]
      refine⟨nod,by simp,fun x hx y hy e=>?_⟩
      simp only [List.map_cons,List.map_nil,List.mem_singleton] at hy
      exact away (hy ▸ e ▸ hx)
  . refine wpAny_bind (wpAny_dictEntries (s:={ s with toks:=s.toks + knd.draws k }) atD datD ?_)
    rw [entry_at eqn j,hj]
    exact wpAny_bind (wpAny_rule (wpAny_pure (old p (atKey_of_get nod hj))))
end
section
variable {X:Cx}
noncomputable def L7 (K:Frag):V->List V->Hp->VK->Prop:=fun x vs H Q=>∃ d b l es ep k,x=.ref d /\ vs=[.ref b,.ref l] /\ H d=some (.dE es ep) /\ mJ K H es /\ SqT K H b (k.map kV) /\ es.length < sizeLine /\
  ((∀ v,kP es k=some v->Q v H) /\ (kP es k=none->∀ ep',Q (.ref l) (upd H d (.dE (es ++ [(k,b,.ref l)]) ep'))))
theorem U9 (hu:X.A.units + 1 < cLine):MtR X "dict.setdefault" (L7 X.K):=by
  intro pins s σ H x xs v us Q I r rs h
  obtain⟨d,b,l,es,ep0,k,rfl,rfl,hd,hko,hb,hl,q1,q2⟩:=h
  cases r
  cases rs with
  | cons r1 rs =>
    cases r1
    cases rs with
    | cons r2 rs =>
      cases r2
      cases rs
      obtain⟨z,hs,tbl,rel,dd⟩:=X1 I (.inl hd) hko
      have hz:tbl.length <= sizeLine:=by rw [<- rel.len];exact z
      refine wpAny_call_entry PySem.F.slot_dict_setdefault dd.typeIs PySem.F.entry_dict_setdefault ?_ (PySem.F.args_dict_setdefault_3 _ _ _)
      unfold Builtin.«dict.setdefault»
      refine wpAny_bind ?_
      unfold Builtin.Dict.keyAndDefault
      refine wpAny_bind (wpAny_notOrdered_dict dd.typeIs ?_)
      show wpAny _ _ (pure (d,Value.ref b,some (Value.ref l))) _ _ s
      refine wpAny_pure ?_
      show wpAny _ _ (if (d == sysModules)=true then _ else (dictSetDefault d (Value.ref b) (Value.ref l) >>= _)) _ _ s
      rw [if_neg (by rw [hs];decide)]
      refine wpAny_bind (Z22 (tupleKind_room_in1 hu) (zS I hb) dd hz (fun p hp=>?_) fun no hp' dd' same=>?_)
      . have rv:=rel.val k
        rw [hp] at rv
        obtain⟨y,hy,ry⟩:∃ y,kP es k=some y /\ RelV y p.2:=by
          cases hv:kP es k with
          | none=>rw [hv] at rv;exact (by cases rv)
          | some y=>rw [hv] at rv;exact⟨y,rfl,rv⟩
        exact wpAny_pure ⟨_,rfl,y,H,I.tok _,ry,q1 y hy⟩
      . have rv:=rel.val k
        rw [no] at rv
        have hv:kP es k=none:=by
          cases hv:kP es k with
          | none=>rfl
          | some y=>rw [hv] at rv;cases rv
        rw [storedH_new no] at dd'
        obtain⟨q,es',ep,hq,h2,h3,h4,_,h5⟩:=dd'
        exact wpAny_pure ⟨_,rfl,.ref l,_,rR (ob:=.dE (es ++ [(k,b,.ref l)]) ep) I (by rw [hd];exact True.intro) same ⟨q,hq⟩ ⟨by rw [List.length_append];exact hl,hs,_,KE.snoc (show RelV (.ref l) (.ref l) from rfl) rel,q,es',hq,h2,h3,h4,h5⟩,rfl,q2 hv ep⟩
end
theorem oU {k:List Key}:∀ (es:List Ent),kP es k=kZ ((es.map (·.1)).zip (es.map (·.2.2))) k
  | []=>by simp [kP,rX]
  | e :: es=>by
    simp only [List.map_cons,List.zip_cons_cons]
    by_cases h:e.1=k
    . rw [yA h,kY (p:=(e.1,e.2.2)) h]
    . rw [yB h,jW (p:=(e.1,e.2.2)) h,oU es]
noncomputable def sZ:List D->Option (List Key)
  | []=>some []
  | .int i :: r=>(sZ r).map (Sum.inl i :: ·)
  | _=>none
theorem sX {K:Frag}{m:Bool}{H:Hp}:∀ {kd:List D}{vs:List V}{fp:List Addr}{ks:List Key},sZ kd=some ks->Reps K m H kd vs fp->vs=ks.map kV
  | [],vs,fp,ks,h,r=>by
    cases h
    simp only [Reps] at r
    rw [r.1];rfl
  | .int i :: kd,vs,fp,ks,h,r=>by
    unfold sZ at h
    cases hk:sZ kd with
    | none=>rw [hk] at h;cases h
    | some k2 =>
      rw [hk] at h
      cases h
      simp only [Reps] at r
      obtain⟨v,us,f1,f2,rfl,rfl,r1,r2⟩:=r
      rw [sX hk r2,bH r1]
      rfl
  | .non :: _,_,_,_,h,_=>by cases h
  | .bl _ :: _,_,_,_,h,_=>by cases h
  | .str _ :: _,_,_,_,h,_=>by cases h
  | .tup _ :: _,_,_,_,h,_=>by cases h
  | .lst _ :: _,_,_,_,h,_=>by cases h
  | .obj _ _ _ :: _,_,_,_,h,_=>by cases h
  | .dk _ _ :: _,_,_,_,h,_=>by cases h
  | .dt _ _ :: _,_,_,_,h,_=>by cases h
  | .exc _ :: _,_,_,_,h,_=>by cases h
noncomputable def ixT (k:List Key):List (List Key)->Option Nat
  | []=>none
  | a :: r=>if a=k then some 0 else (ixT k r).map (· + 1)
theorem pC {k:List Key}:∀ {ks:List (List Key)}{vs:List V}{j:Nat}{v:V},ixT k ks=some j->vs[j]? = some v->kZ (ks.zip vs) k=some v
  | [],_,_,_,h,_=>by cases h
  | a :: ks,[],j,v,_,e=>by simp at e
  | a :: ks,u :: vs,j,v,h,e=>by
    unfold ixT at h
    rw [List.zip_cons_cons]
    by_cases ha:a=k
    . rw [if_pos ha] at h
      cases h
      simp at e
      subst e
      exact kY (p:=(a,u)) ha
    . rw [if_neg ha] at h
      cases hi:ixT k ks with
      | none=>rw [hi] at h;cases h
      | some i =>
        rw [hi] at h
        cases h
        rw [jW (p:=(a,u)) ha]
        exact pC hi (by simpa using e)
theorem tG {k:List Key}:∀ {ks:List (List Key)}{vs:List V},ixT k ks=none->kZ (ks.zip vs) k=none
  | [],_,_=>by simp [rX]
  | a :: ks,[],_=>by simp [rX]
  | a :: ks,u :: vs,h=>by
    unfold ixT at h
    by_cases ha:a=k
    . rw [if_pos ha] at h;cases h
    . rw [if_neg ha] at h
      rw [List.zip_cons_cons,jW (p:=(a,u)) ha]
      exact tG (by cases hi:ixT k ks with
        | none=>rfl
        | some i=>rw [hi] at h;cases h)
noncomputable def pS (i j:Nat) (fk:En->Option D):En->Res:=fun env=>match env[i]?,fk env,env[j]? with
  | some (some (true,.dt ks ds)),some (.lst kd),some (some (_,d))=>match sZ kd with
    | some k=>if ks.length < 1000 /\ flat d=true /\ j ≠ i then
        match ixT k ks with
        | some n=>match ds[n]? with
          | some (.lst es)=>if es.length <= 1000 /\ flats es=true then .next (env.set i (some (true,.dt ks (ds.set n (.lst (es ++ [d])))))) else .bad
          | _=>.bad
        | none=>.next (env.set i (some (true,.dt (ks ++ [k]) (ds ++ [.lst [d]]))))
      else .bad
    | none=>.bad
  | _,_,_=>.bad
noncomputable def Z0f (K:Frag):List V->Hp->VK->Prop:=fun xs H Q=>∃ p ys,xs=[.ref p] /\ ((SqL K H p ys /\ ∀ l,H l=none->Q (.ref l) (upd H l (.tup ys))) \/ (SqT K H p ys /\ Q (.ref p) H))
theorem Z9 {H:Hp}{a b:Addr}{o u:HO}(h:a ≠ b):upd (upd H a o) b u=upd (upd H b u) a o:=by
  funext c
  unfold upd
  by_cases h1:c=b
  . by_cases h2:c=a
    . exact absurd (h2.symm.trans h1) h
    . rw [if_pos h1,if_neg h2,if_pos h1]
  . by_cases h2:c=a
    . rw [if_neg h1,if_pos h2,if_pos h2]
    . rw [if_neg h1,if_neg h2,if_neg h2,if_neg h1]
theorem P6 {H:Hp}{a:Addr}{o u:HO}:upd (upd H a o) a u=upd H a u:=by
  funext c
  unfold upd
  by_cases h1:c=a
  . rw [if_pos h1,if_pos h1]
  . rw [if_neg h1,if_neg h1,if_neg h1]
section
variable {X:Cx}{m2:Bool}{rs2:List Nat}{fk:En->Option D}{pos:Pos}{i j:Nat}{call:Expr}
theorem Z0k (hpe:PE X call (tBM X.K "list" wK (tBM X.K "dict" (L7 X.K) (wG i) (uW (tCB (Z0f X.K) (uW (tD X.K m2 rs2 fk) Q4)) (uW (Z4A Q4) Q4))) (uW (wG j) Q4)))
    (hs:swapsWith call none pos.line X.env=pure false:=by rfl):QS X (.Expr call pos) (pS i j fk):=.mk (M7 hpe hs) fun E σ H ⟨P,env,I,q⟩=>by
  obtain⟨F,hF⟩:=I.ex
  unfold pS at q
  split at q
  . rename_i ks ds kd oj d h2 hk h3
    split at q
    . rename_i k hkd
      split at q
      . rename_i hcond
        obtain⟨v,hv1,_⟩:=hF.ok i true _ h2
        obtain⟨o1,o2,o3,o4⟩:=hF.own i _ h2
        have r0:=o3 v hv1
        simp only [Rep] at r0
        obtain⟨a,ens,ep0,vs,fp',rfl,hks,hvs,hko,hr,hst⟩:=r0
        obtain⟨hFi,ha⟩:F i=a :: fp' /\ H a=some (.dE ens ep0):=by
          rcases hst with z | ⟨z,_⟩
          . exact z
          . cases z
        have e0:kZ (ks.zip vs) k=kP ens k:=by rw [oU,hks,hvs]
        have hlen:ks.length=vs.length:=by rw [<- hks,<- hvs,List.length_map,List.length_map]
        obtain⟨w,hw1,hw2⟩:=hF.ok j oj d h3
        obtain⟨_,wf⟩:=Rep.flat _ _ _ hcond.2.1 hw2
        have nd2:fp'.Nodup:=by rw [hFi] at o1;exact (List.nodup_cons.mp o1).2
        have naf:a ∉ fp':=by rw [hFi] at o1;exact (List.nodup_cons.mp o1).1
        refine⟨.ref a,hv1,.inr (.inr (.inl ⟨rfl,.inr ⟨_,_,ha⟩⟩)),env,F,_,hF.ok,hk,fun v1 H1 fp1 s1 r1 c1=>?_⟩
        obtain⟨z,ws,fpz,rfl,hsq,hrk,_⟩:=bW r1
        have ews:=sX hkd hrk
        refine⟨z,ws,rfl,.inl ⟨hsq,fun l1 hl1=>?_⟩⟩
        refine⟨Nat.zero_le _,fun l2 hl2=>?_⟩
        have s12:Same H (upd H1 l1 (.tup ws)):=s1.trans (bM hl1)
        have s13:∀ o,Same H (upd (upd H1 l1 (.tup ws)) l2 o):=fun o=>s12.trans (bM hl2)
        have n21:l1 ≠ l2:=fun z=>by rw [<- z,aY] at hl2;cases hl2
        have nal2:a ≠ l2:=fun z=>by have:=s12 _ _ ha;rw [z,hl2] at this;cases this
        refine⟨a,l1,l2,ens,ep0,k,rfl,rfl,s13 _ _ _ ha,fun e he=>iY (Kp.same (s13 _) []) (hko e he),SqT.of (by rw [aX n21,aY,ews]),?_,fun v hv=>?_,fun hn ep'=>?_⟩
        . have:ens.length <= 999:=by have:=congrArg List.length hks;rw [List.length_map] at this;omega
          exact eJ (n:=ens.length) (by omega)
        . split at q
          . rename_i n hix
            split at q
            . rename_i es hds
              split at q
              . rename_i hes
                have s:=s13 (.lst [])
                obtain⟨b,us,b1,b2,b3,b4,b5⟩:=Reps.modify (hr.same s) hds hes.2
                have hvb:v=.ref b:=by
                  have:=pC hix b1
                  rw [e0,hv] at this
                  exact Option.some.inj this
                subst hvb
                refine⟨.inl ⟨rfl,us,SqL.of b2⟩,w,hw1,b,us,w,rfl,rfl,b2,eJ (by rw [b3.length];exact hes.1),q _ _ ?_⟩
                have nab:a ≠ b:=fun z=>naf (z ▸ b4)
                have hnew:=b5 nd2 (us ++ [w]) (es ++ [d]) (by have:=b3.snoc ((wf true).same s);simpa using this)
                refine Z1 (I.same.trans s) I.len (hF.grow s) h2 hv1 (by rw [hFi];exact List.mem_cons_of_mem _ b4) b2 (by intro xs z;cases z) (by intro x u z;cases z) (fun st=>?_)
                rw [hFi]
                simp only [Rep]
                refine⟨a,ens,ep0,vs,fp',rfl,hks,hvs,fun e he=>Z1V b2 (by intro xs z;cases z) (by intro q xs z;cases z) _ _ (iY (Kp.same s []) (hko e he)),?_,.inl ⟨rfl,by rw [aX nab];exact s _ _ ha⟩⟩
                cases st
                . exact Reps.weak _ _ _ hnew
                . exact hnew
              . exact q.elim
            . exact q.elim
          . rename_i hix
            rw [<- e0,tG hix] at hv
            cases hv
        . split at q
          . rename_i n hix
            exfalso
            have hlt:n < vs.length:=by
              clear hn q
              have:∀ {l:List (List Key)}{m:Nat},ixT k l=some m->m < l.length:=by
                intro l
                induction l with
                | nil=>intro m h;cases h
                | cons x l ih =>
                  intro m h
                  unfold ixT at h
                  by_cases hx:x=k
                  . rw [if_pos hx] at h;cases h;simp
                  . rw [if_neg hx] at h
                    cases hi:ixT k l with
                    | none=>rw [hi] at h;cases h
                    | some m'=>rw [hi] at h;cases h;have:=ih hi;simp;omega
              have:=this hix
              omega
            have:=pC hix (List.getElem?_eq_getElem hlt)
            rw [e0,hn] at this
            cases this
          . rename_i hix
            refine⟨.inl ⟨rfl,[],SqL.of (by rw [aX (Ne.symm nal2),aY])⟩,w,hw1,l2,[],w,rfl,rfl,by rw [aX (Ne.symm nal2),aY],eJ (by simp),q _ _ ?_⟩
            rw [Z9 nal2,P6,List.nil_append]
            have s:=s13 (.lst [w])
            refine oC (fp2:=fp' ++ [l2]) (I.same.trans s) I.len (hF.grow s) h2 hv1 hFi (s _ _ ha) (by intro xs z;cases z) (by intro x u z;cases z) (fun st=>?_) ?_ fun b hb=>?_
            . simp only [Rep]
              have ln:Rep X.K true (upd (upd H1 l1 (.tup ws)) l2 (.lst [w])) (.lst [d]) (.ref l2) [l2]:=by
                have:=kT (m:=true) (K:=X.K) hl2 (ds:=[d]) (vs:=[w]) (by have:=(mT (m:=true) (K:=X.K)).snoc ((wf true).same s12);simpa using this)
                exact this
              have all:=(hr.same s).snoc ln
              have kp:Kp (fp' ++ [l2]) (upd (upd H1 l1 (.tup ws)) l2 (.lst [w])) (upd (upd (upd H1 l1 (.tup ws)) l2 (.lst [w])) a (.dE (ens ++ [(k,l1,.ref l2)]) ep')) :=
                Kp.upd (s _ _ ha) (by intro xs z;cases z) (by intro x u z;cases z) (by simp only [List.mem_append,List.mem_singleton,not_or];exact⟨naf,nal2⟩)
              refine⟨a,ens ++ [(k,l1,.ref l2)],ep',vs ++ [.ref l2],fp' ++ [l2],rfl,by rw [List.map_append,hks];rfl,by rw [List.map_append,hvs];rfl,fun e he=>?_,?_,.inl ⟨rfl,aY⟩⟩
              . rcases List.mem_append.mp he with z | z
                . exact iY kp (iY (Kp.same s []) (hko e z))
                . rw [List.mem_singleton.mp z]
                  exact iY kp (SqT.of (by rw [aX n21,aY,ews]))
              . cases st
                . exact Reps.weak _ _ _ (Reps.keep _ _ _ kp all)
                . exact Reps.keep _ _ _ kp all
            . have fresh:l2 ∉ fp':=fun z=>by
                obtain⟨o,ho⟩:=Reps.dom _ _ _ hr l2 z
                have:=s12 _ _ ho
                rw [hl2] at this
                cases this
              simp only [List.nodup_cons,List.mem_append,List.mem_singleton,not_or]
              exact⟨⟨naf,nal2⟩,List.nodup_append.mpr ⟨nd2,by simp,fun x hx y hy e=>fresh (by simp at hy;rw [<- hy,<- e];exact hx)⟩⟩
            . rcases List.mem_append.mp hb with z | z
              . exact .inl z
              . obtain rfl:=List.mem_singleton.mp z
                refine .inr ⟨(I.same.trans s12).free hl2,fun j' s' ej hbj=>?_⟩
                obtain⟨o,ho⟩:=hF.dom ej _ hbj
                have:=s12 _ _ ho
                rw [hl2] at this
                cases this
      . exact q.elim
    . exact q.elim
  . exact q.elim
end
noncomputable def VEnts (h:Heap) (d:Addr) (es:Array DictEntry) (ep:Nat):Prop:=∃ o,h.get? d=some o /\ o.ExactDict /\ o.data=.dict es ep
theorem VEnts.keep {h h':Heap}{d:Addr}{es:Array DictEntry}{ep:Nat}(x:VEnts h d es ep) (k:∀ o,h.get? d=some o->h'.get? d=some o):VEnts h' d es ep:=by
  obtain⟨o,e,r⟩:=x
  exact⟨o,k o e,r⟩
theorem VEnts.lt {h:Heap}{d:Addr}{es:Array DictEntry}{ep:Nat}(x:VEnts h d es ep):d < h.objs.size:=by
  obtain⟨o,e,_⟩:=x
  exact Heap.lt_size e
theorem VEnts.ty {s:Shared}{d:Addr}{es:Array DictEntry}{ep:Nat}(x:VEnts s.heap d es ep):s.TypeIs (.ref d) "dict":=by
  obtain⟨o,e,c,_⟩:=x
  exact⟨o,e,c.1⟩
section
variable {prog:Program}{w:World}{A:Around}{E:Value->Shared->Prop}{s:Shared}{d v I:Addr}{es:Array DictEntry}{ep:Nat}
theorem P4 {Z:Value->Shared->Prop}(hv:s.heap.IsValuesView v d) (x:VEnts s.heap d es ep)
    (z:Z (.ref s.heap.objs.size) { s with heap:=s.heap.push { cls:=.type "dict_valueiterator",data:=.fields #[.ref d,.int 0 0,.int es.size 0,.int ep 0] } }):wpAny (model prog w) A (pyIter (.ref v)) Z E s:=by
  obtain⟨ov,atV,clV,daV⟩:=id hv
  obtain⟨od,atD,clD,daD⟩:=id x
  refine wpAny_pyIter_slot hv.typeIs PySem.F.slot_dict_values_iter (wpAny_call_entry PySem.F.slot_dict_values_iter hv.typeIs PySem.F.entry_dict_values_iter ?_ (PySem.F.args_dict_values_iter_1 _))
  unfold Builtin.«dict_values.__iter__»;refine wpAny_bind (wpAny_pure ?_);refine wpAny_bind ?_
  unfold Builtin.Dict_items.dictOf;refine wpAny_bind (wpAny_field atV daV (x:=.ref d) rfl (wpAny_pure ?_));refine wpAny_bind ?_
  unfold Builtin.Dict_items.newIterator;refine wpAny_bind (wpAny_dictEntries atD daD ?_);refine wpAny_bind (wpAny_dictEpoch atD daD ?_)
  simp only [show Builtin.Dict_items.ownsTuple "dict_valueiterator" = false by decide,Bool.false_eq_true,if_false]
  refine wpAny_newObj_type (wpAny_pure ⟨_,rfl,"dict_valueiterator",_,⟨_,Heap.get?_push_size _ rfl,rfl⟩,PySem.F.slot_dict_valueiterator_next.lookup,?_⟩)
  simpa [rawInt] using z
theorem P5 {i:Nat}{Z:Option Value->Shared->Prop}(it:s.heap.IsValIter I d i es.size ep) (x:VEnts s.heap d es ep) (hi:i < es.size)
    (z:∀ hp,hp.IsValIter I d (i + 1) es.size ep->Heap.SameBut I s.heap hp->Z (some es[i].val) { s with heap:=hp }):wpAny (model prog w) A (pyNext (.ref I)) Z E s:=by
  obtain⟨oI,atI',clI,daI⟩:=id it
  obtain⟨od,atD,clD,daD⟩:=id x
  unfold pyNext;refine wpAny_bind (wpAny_attempt (wpAny_callSpecial?_slot (name:=Str.ofString "__next__") it.typeIs PySem.F.slot_dict_valueiterator_next
    (wpAny_call_entry PySem.F.slot_dict_valueiterator_next it.typeIs PySem.F.entry_dict_valueiterator_next ?_ (PySem.F.args_dict_valueiterator_next_1 _))))
  refine wpAny_bind (wpAny_pure ?_);refine wpAny_bind ?_;refine wpAny_bind ?_
  first | refine wpAny_bind (wpAny_typeNameOfWhole_valiter it.typeIs (wpAny_pure ?_)) | refine wpAny_bind (wpAny_typeNameOf_valiter it.typeIs (wpAny_pure ?_))
  refine wpAny_bind (wpAny_fieldsOf atI' daI ?_);simp only [show Builtin.Dict_items.ownsTuple "dict_valueiterator" = false by decide,Bool.false_eq_true,if_false]
  show wpAny _ _ (if (Value.ref d == Value.none)=true then _ else _) _ _ _
  rw [if_neg (show ¬ ((Value.ref d == Value.none)=true) from fun z=>Bool.false_ne_true z)];refine wpAny_bind (wpAny_pure ?_);refine wpAny_bind (wpAny_dictEntries atD daD ?_)
  rw [if_neg (by simp)];refine wpAny_bind (wpAny_pure ?_);refine wpAny_bind (wpAny_dictEpoch atD daD ?_);rw [if_neg (by simp)];refine wpAny_pure ?_
  simp only [show ¬ ((i:Int) < 0) by omega,if_false,Int.toNat_natCast,Array.getElem?_eq_getElem hi];refine wpAny_bind ?_
  first | refine wpAny_bind (wpAny_typeNameOfWhole_valiter it.typeIs (wpAny_pure ?_)) | refine wpAny_bind (wpAny_typeNameOf_valiter it.typeIs (wpAny_pure ?_))
  refine wpAny_bind (wpAny_isOneOf_valiter it.typeIs ?_);show wpAny _ _ (setField (.ref I) 1 (rawInt ((i:Int) + 1)) >>= _) _ _ _
  refine wpAny_bind (wpAny_setField atI' daI (by simp) ?_)
  have it':(s.heap.update I (Obj.mapFields (·.setIfInBounds 1 (rawInt ((i:Int) + 1))))).IsValIter I d (i + 1) es.size ep :=
    ⟨_,Heap.get?_update_self _ atI' (Obj.isFreed_of_fields (Obj.data_mapFields daI _)),(Obj.cls_mapFields ..).trans clI,by rw [Obj.data_mapFields daI];simp [rawInt]⟩
  have ty':Shared.TypeIs { s with heap:=s.heap.update I (Obj.mapFields (·.setIfInBounds 1 (rawInt ((i:Int) + 1)))) } (.ref I) "dict_valueiterator":=it'.typeIs
  refine wpAny_bind (wpAny_holding ?_);refine wpAny_bind (wpAny_isOneOf_valiter ty' ?_);refine wpAny_bind (wpAny_isOneOf_valiter ty' ?_)
  exact wpAny_pure (wpAny_pure ⟨_,rfl,wpAny_pure (z _ it' (Heap.SameBut.update ..))⟩)
theorem Z7 {Z:Option Value->Shared->Prop}(h0:A.handled=none) (it:s.heap.IsValIter I d es.size es.size ep) (x:VEnts s.heap d es ep)
    (z:∀ hp,Heap.ExtBut I s.heap hp->Z none { s with heap:=hp }):wpAny (model prog w) A (pyNext (.ref I)) Z E s:=by
  obtain⟨oI,atI',clI,daI⟩:=id it
  obtain⟨od,atD,clD,daD⟩:=id x
  unfold pyNext;refine wpAny_bind (wpAny_attempt (wpAny_callSpecial?_slot (name:=Str.ofString "__next__") it.typeIs PySem.F.slot_dict_valueiterator_next
    (wpAny_call_entry PySem.F.slot_dict_valueiterator_next it.typeIs PySem.F.entry_dict_valueiterator_next ?_ (PySem.F.args_dict_valueiterator_next_1 _))))
  refine wpAny_bind (wpAny_pure ?_);refine wpAny_bind ?_;refine wpAny_bind ?_
  first | refine wpAny_bind (wpAny_typeNameOfWhole_valiter it.typeIs (wpAny_pure ?_)) | refine wpAny_bind (wpAny_typeNameOf_valiter it.typeIs (wpAny_pure ?_))
  refine wpAny_bind (wpAny_fieldsOf atI' daI ?_);simp only [show Builtin.Dict_items.ownsTuple "dict_valueiterator" = false by decide,Bool.false_eq_true,if_false]
  show wpAny _ _ (if (Value.ref d == Value.none)=true then _ else _) _ _ _
  rw [if_neg (show ¬ ((Value.ref d == Value.none)=true) from fun z=>Bool.false_ne_true z)];refine wpAny_bind (wpAny_pure ?_);refine wpAny_bind (wpAny_dictEntries atD daD ?_)
  rw [if_neg (by simp)];refine wpAny_bind (wpAny_pure ?_);refine wpAny_bind (wpAny_dictEpoch atD daD ?_);rw [if_neg (by simp)];refine wpAny_pure ?_
  simp only [show ¬ ((es.size:Int) < 0) by omega,if_false,Int.toNat_natCast,Array.getElem?_eq_none (Nat.le_refl es.size)];refine wpAny_bind ?_
  first | refine wpAny_bind (wpAny_typeNameOfWhole_valiter it.typeIs (wpAny_pure ?_)) | refine wpAny_bind (wpAny_typeNameOf_valiter it.typeIs (wpAny_pure ?_))
  show wpAny _ _ (setField (.ref I) 0 .none >>= _) _ _ _;refine wpAny_bind (wpAny_setField atI' daI (by simp) ?_)
  show wpAny _ _ (newExc (.type "StopIteration") [] >>= _) _ _ _;refine wpAny_bind ?_;simp only [newExc,newTuple]
  refine wpAny_bind (wpAny_newObj_type ?_ (by size_fits));refine wpAny_bind (m:=firstArgMember _ _) (wpAny_of_eq (a:=Value.none) (by first | rfl | (simp only [firstArgMember];rfl)) ?_)
  refine wpAny_newObj_type ?_ (by size_fits);simp only [raiseNew];refine wpAny_bind (wpAny_handled ?_);rw [show A.in1.handled=none from h0]
  refine wpAny_bind (wpAny_pure (wpAny_throw ?_));refine wpAny_bind (wpAny_isInstance (T := "StopIteration") (b:=true) ⟨_,Heap.get?_push_size _ rfl,rfl⟩ isSubtype_stop ?_)
  exact wpAny_pure (z _ (((Heap.SameBut.update ..).extBut.push _).push _))
theorem P2 (h0:A.handled=none) (hne:d ≠ I):Walks prog w A I [I,d] [I] es.size (fun i u=>∃ h:i < es.size,u=es[i].val) (fun i h=>h.IsValIter I d i es.size ep /\ VEnts h d es ep) where
  sub:=fun b hb=>by rw [List.mem_singleton.mp hb];simp
  frame:=fun _ _ _ st hk=>⟨st.1.at fun o e=>hk I (by simp) o e,st.2.keep fun o e=>hk d (by simp) o e⟩
  item:=fun i s Q E hi st hQ=>P5 st.1 st.2 hi fun hp it' same=>hQ _ hp s.toks ⟨hi,rfl⟩ ⟨it',st.2.keep fun o e=>same.extBut d o hne e⟩ fun b o hb e=>same.extBut b o (fun z=>hb (by simp [z])) e
  done:=fun s Q E st hQ=>Z7 h0 st.1 st.2 fun hp ext=>hQ hp s.toks fun b o hb e=>ext b o (fun z=>hb (by simp [z])) e
  self:=fun _ _ _ _ st hQ=>wpAny_pyIter_valiter st.1 hQ
theorem Z6:PySem.W.KdlSrc prog w "dict_values" v d es.size (fun i u=>∃ h:i < es.size,u=es[i].val) (fun h=>h.IsValuesView v d /\ VEnts h d es ep) where
  type:=fun _ hm=>hm.1.typeIs
  there:=fun _ hm=>⟨let ⟨_,ho,_⟩:=hm.1;Heap.lt_size ho,hm.2.lt⟩
  keep:=fun _ _ hm hk=>⟨let ⟨o,ho,x⟩:=hm.1;⟨o,hk v (.inl rfl) o ho,x⟩,hm.2.keep fun o e=>hk d (.inr rfl) o e⟩
  notList:=by decide
  notTuple:=by decide
  hint:=fun _ _ _ _ hm hq=>PySem.W.kdl_hint_values hm.1.typeIs hq
  iter:=fun _ _ h0 hm=>⟨_,_,(fun _ _ hq=>P4 hm.1 hm.2 hq),P2 h0 (Nat.ne_of_lt hm.2.lt),⟨⟨_,Heap.get?_push_size _ rfl,rfl,rfl⟩,hm.2.keep fun o e=>Heap.get?_push_of_some _ e⟩⟩
theorem P3 {Z:Value->Shared->Prop}(x:VEnts s.heap d es ep) (hd:(d == sysModules)=false) (z:Z (.ref s.heap.objs.size) { s with heap:=s.heap.push { cls:=.type "dict_values",data:=.fields #[.ref d] } }) :
    wpAny (model prog w) A (call (.builtin "dict.values") [.ref d]) Z E s:=by
  refine wpAny_call_entry PySem.F.slot_dict_values x.ty PySem.F.entry_dict_values ?_ (PySem.F.args_dict_values_1 _)
  refine wpAny_bind ?_;unfold Builtin.Dict.noArgs;refine wpAny_bind (wpAny_notOrdered_dict x.ty ?_);show wpAny _ _ (pure d) _ _ _;refine wpAny_pure ?_
  show wpAny _ _ (Builtin.Dict.showsAll d >>= _) _ _ _;unfold Builtin.Dict.showsAll;rw [if_neg (by rw [hd];decide)];refine wpAny_bind (wpAny_pure ?_)
  exact wpAny_bind (wpAny_newObj_type (wpAny_pure ⟨_,rfl,z⟩))
end
theorem Z39:∀ {es:List Ent}{xs:List (List Key × Addr × Value)},KE es xs->Vals (es.map (·.2.2)) (xs.map (·.2.2)):=by
  intro es xs h
  induction h with
  | nil=>exact .nil
  | cons hq _ ih=>exact .cons hq.2.2 ih
section
variable {X:Cx}{o:Expr}{to:TE}{pos cpos apos p p2:Pos}
theorem Z2t (hc:X.calm=true) (hg:Gl X "list") (hm:X.mg "list" = none) (ho:PE X o to) (hbase:attributeBase o "values" X.env (eval o X.env)=eval o X.env:=by rfl) (hline:(apos.endLine == cpos.line)=true:=by rfl)
    (hs2:starEach [.Call (.Attribute o "values" apos) [] [] cpos] X.env=[(false,eval (.Call (.Attribute o "values" apos) [] [] cpos) X.env)]:=by rfl):PE X (.Call (.Name "list" p) [.Call (.Attribute o "values" apos) [] [] cpos] [] pos)
    (fun σ H Q=>to σ H fun x H1=>∃ a kvs ep,x=.ref a /\ H1 a=some (.dE kvs ep) /\ mJ X.K H1 kvs /\ ∀ l,H1 l=none->Q (.ref l) (upd H1 l (.lst (kvs.map (·.2.2))))):=by
  intro pins s σ H Q I h
  refine Call_ (kU I hg hm vU (PyProof.Rows.callWith_type1 (spliced_more ?_ hs2) hs2 rfl))
  refine wpAny_Call_method0_late hbase hline (thn (ho pins s σ H _ I h) fun v s1 ⟨x,H1,I1,r1,q1⟩=>?_)
  obtain⟨a,kvs,ep0,rfl,ha,hko,q⟩:=q1
  have ty:tyV X.K "dict" (.ref a) H1:=.inr (.inr (.inl ⟨rfl,.inr ⟨_,_,ha⟩⟩))
  obtain⟨h1,h2⟩:=A8 I1 r1 ty
  cases r1
  obtain⟨z,hs,xs,rel,od,es,ep,atD,clD,daD,eqn,isA,nod⟩:=X1 I1 (.inl ha) hko
  have ve:VEnts s1.heap a es ep:=⟨od,atD,clD,daD⟩
  have hsz:es.size=xs.length:=size_of_entries eqn
  have hz:es.size <= sizeLine:=by rw [hsz,<- rel.len];exact z
  refine⟨"dict","dict.values",PySem.F.plainAttrs_dict,PySem.F.slot_dict_values,PySem.F.type_dict_values,h1,h2,Calls.callWith_builtin rfl (PySem.evalArgs_none (P3 ve hs (spliced_none ?_)))⟩
  have I2:Inv X pins σ H1 { s1 with heap:=s1.heap.push { cls:=.type "dict_values",data:=.fields #[.ref a] } }:=I1.kept (t':=s1.toks) fun b ob e=>Heap.get?_push_of_some _ e
  refine PySem.W.kdl_call (Z6 (v:=s1.heap.objs.size) (d:=a) (es:=es) (ep:=ep)) (I.ok.hd hc) ⟨⟨_,Heap.get?_push_size _ rfl,rfl,rfl⟩,ve.keep fun o e=>Heap.get?_push_of_some _ e⟩ hz fun hp tk acc c kept at' its=>?_
  have same:acc=(xs.map (·.2.2)).toArray:=by
    apply Array.ext_getElem?
    intro j
    by_cases hj:j < xs.length
    . have hja:j < acc.size:=by rw [its.1,hsz];exact hj
      obtain⟨hj2,g⟩:=its.2 j _ (Array.getElem?_eq_getElem hja)
      have e1:=entry_at eqn j
      rw [List.getElem?_eq_getElem hj,Array.getElem?_eq_getElem hj2] at e1
      rw [Array.getElem?_eq_getElem hja,g,List.getElem?_toArray,List.getElem?_map,List.getElem?_eq_getElem hj]
      simp only [Option.map_some,Option.some.injEq] at e1 ⊢
      rw [e1]
      rfl
    . have e1:acc.size=xs.length:=by rw [its.1,hsz]
      rw [Array.getElem?_eq_none (by omega),List.getElem?_toArray,List.getElem?_eq_none (by simp;omega)]
  subst same
  refine⟨.ref _,_,I2.laid (t':=tk) (o:=.lst (kvs.map (·.2.2))) kept (Nat.le_refl _) ⟨by rw [List.length_map];exact z,_,c,Z39 rel,at'⟩,rfl,q _ (I2.hok.fresh (Nat.le_refl _))⟩
noncomputable def sG (i:Nat):En->Res:=fun env=>match env[i]? with
  | some (some (true,.dt _ ds))=>.ret (.lst ds)
  | _=>.bad
theorem C3 {x:Str}{i:Nat}{p0:Pos}(hc:X.calm=true) (hg:Gl X "list") (hm:X.mg "list" = none) (hN:X.N[i]? = some x:=by rfl) (hv:Vis X.env.scope x:=by first | exact Or.inl rfl | exact Or.inr (Or.inl rfl) | exact Or.inr (Or.inr rfl)) (hd:(x == ("__debug__" : Str))=false:=by decide) (hcd:(x == ("__classdict__" : Str))=false:=by decide)
    (hbase:attributeBase (.Name x p0) "values" X.env (eval (.Name x p0) X.env)=eval (.Name x p0) X.env:=by rfl) (hline:(apos.endLine == cpos.line)=true:=by rfl)
    (hs2:starEach [.Call (.Attribute (.Name x p0) "values" apos) [] [] cpos] X.env=[(false,eval (.Call (.Attribute (.Name x p0) "values" apos) [] [] cpos) X.env)]:=by rfl) :
    QS X (.Return (some (.Call (.Name "list" p) [.Call (.Attribute (.Name x p0) "values" apos) [] [] cpos] [] p2)) pos) (sG i):=.mk (wO (Z2t hc hg hm (jA hN hv hd hcd) hbase hline hs2)) fun E σ H ⟨P,env,I,q⟩=>by
  obtain⟨F,hF⟩:=I.ex
  unfold sG at q
  split at q
  . rename_i ks ds h1
    obtain⟨v,h2,_⟩:=hF.ok i true _ h1
    obtain⟨a1,a2,a3,_⟩:=hF.own i _ h1
    have r:=a3 v h2
    simp only [Rep] at r
    obtain⟨a,es,ep0,vs,fp',rfl,hks,hvs,hko,hr,hst⟩:=r
    obtain⟨hFi,ha⟩:F i=a :: fp' /\ H a=some (.dE es ep0):=by
      rcases hst with z | ⟨z,_⟩
      . exact z
      . cases z
    refine⟨.ref a,h2,a,es,ep0,rfl,ha,hko,fun l hl=>?_⟩
    rw [hvs]
    have fresh:l ∉ fp':=fun z=>by
      obtain⟨o,ho⟩:=Reps.dom _ _ _ hr l z
      rw [hl] at ho
      cases ho
    refine q (.ref l) _ (l :: fp') (I.same.trans (bM hl)) (kT hl hr) (fun b hb=>?_) (List.nodup_cons.mpr ⟨fresh,by rw [hFi] at a1;exact (List.nodup_cons.mp a1).2⟩)
    rcases List.mem_cons.mp hb with z | z
    . rw [z];exact I.same.free hl
    . exact a2 b (by rw [hFi];exact List.mem_cons_of_mem _ z)
  . exact q.elim
end
section
variable {X:Cx}{m2:Bool}{rs2:List Nat}{fk:En->Option D}{a:Expr}{x y:Str}{pos p py pt pl apos cpos apos2 cpos2 cpt:Pos}
theorem S6 (i j:Nat) (hu:X.A.units + 1 < cLine) (hgt:Gl X "tuple") (hmt:X.mg "tuple" = none) (ha:QE X m2 rs2 a fk)
    (hN:X.N[i]? = some x:=by rfl) (hv:Vis X.env.scope x:=by first | exact Or.inl rfl | exact Or.inr (Or.inl rfl) | exact Or.inr (Or.inr rfl)) (hd:(x == ("__debug__" : Str))=false:=by decide) (hcd:(x == ("__classdict__" : Str))=false:=by decide)
    (hN':X.N[j]? = some y:=by rfl) (hv':Vis X.env.scope y:=by first | exact Or.inl rfl | exact Or.inr (Or.inl rfl) | exact Or.inr (Or.inr rfl)) (hd':(y == ("__debug__" : Str))=false:=by decide) (hcd':(y == ("__classdict__" : Str))=false:=by decide)
    (he:starEach [a] X.env=(false,eval a X.env) :: starEach [] X.env:=by rfl) (hpa:(backTo cpt (starEach [] X.env)).any (·.1)=false:=by rfl)
    (hb1:attributeBase (.Name x p) "setdefault" X.env (eval (.Name x p) X.env)=eval (.Name x p) X.env:=by rfl)
    (hf1:((backTo cpos (starEach [.Call (.Name "tuple" pt) [a] [] cpt,.List [] pl] X.env)).all (fun x=>!x.1) && (backToKw cpos (keywordEach [] X.env)).all (fun x=>x.1.isSome)
      && decide (([.Call (.Name "tuple" pt) [a] [] cpt,.List [] pl]:List Expr).length + ([]:List Keyword).length + (if ([]:List Keyword).isEmpty then 0 else 1) < 30))=true:=by rfl)
    (hl1:(apos.endLine == cpos.line)=true:=by rfl) (hs1:starEach [.Call (.Name "tuple" pt) [a] [] cpt,.List [] pl] X.env=(false,eval (.Call (.Name "tuple" pt) [a] [] cpt) X.env) :: starEach [.List [] pl] X.env:=by rfl)
    (hs1b:starEach [.List [] pl] X.env=(false,eval (.List [] pl) X.env) :: starEach [] X.env:=by rfl) (hp1:(backTo cpos (starEach [.List [] pl] X.env)).any (·.1)=false:=by rfl)
    (hb2:attributeBase (.Call (.Attribute (.Name x p) "setdefault" apos) [.Call (.Name "tuple" pt) [a] [] cpt,.List [] pl] [] cpos) "append" X.env (eval (.Call (.Attribute (.Name x p) "setdefault" apos) [.Call (.Name "tuple" pt) [a] [] cpt,.List [] pl] [] cpos) X.env)=eval (.Call (.Attribute (.Name x p) "setdefault" apos) [.Call (.Name "tuple" pt) [a] [] cpt,.List [] pl] [] cpos) X.env:=by rfl)
    (hf2:((backTo cpos2 (starEach [.Name y py] X.env)).all (fun x=>!x.1) && (backToKw cpos2 (keywordEach [] X.env)).all (fun x=>x.1.isSome)
      && decide (([.Name y py]:List Expr).length + ([]:List Keyword).length + (if ([]:List Keyword).isEmpty then 0 else 1) < 30))=true:=by rfl)
    (hl2:(apos2.endLine == cpos2.line)=true:=by rfl) (hs2:starEach [.Name y py] X.env=(false,eval (.Name y py) X.env) :: starEach [] X.env:=by rfl) (hp2:(backTo cpos2 (starEach [] X.env)).any (·.1)=false:=by rfl)
    (hs:swapsWith (.Call (.Attribute (.Call (.Attribute (.Name x p) "setdefault" apos) [.Call (.Name "tuple" pt) [a] [] cpt,.List [] pl] [] cpos) "append" apos2) [.Name y py] [] cpos2) none pos.line X.env=pure false:=by rfl) :
    QS X (.Expr (.Call (.Attribute (.Call (.Attribute (.Name x p) "setdefault" apos) [.Call (.Name "tuple" pt) [a] [] cpt,.List [] pl] [] cpos) "append" apos2) [.Name y py] [] cpos2) pos) (pS i j fk) :=
  Z0k (hpe:=Z0F PySem.F.plainAttrs_list PySem.F.slot_list_append PySem.F.type_list_append pV
    (Z0F PySem.F.plainAttrs_dict PySem.F.slot_dict_setdefault PySem.F.type_dict_setdefault (U9 hu) (jA hN hv hd hcd)
      (pa_cons (L2.pe_callTy (r:=Z0f X.K) oB hgt hmt tR (pa_cons ha pa_nil he) (he:=he) (hpl:=hpa)) (pa_cons (pe_lst pa_nil) pa_nil hs1b) hs1) hb1 hf1 hl1 hs1 hp1)
    (pa_cons (jA hN' hv' hd' hcd') pa_nil hs2) hb2 hf2 hl2 hs2 hp2) (hs:=hs)
end
theorem EnvS.drop {K:Frag}{P H:Hp}{σ:L2.St}{env:En}{F:Nat->List Addr}(j:Nat) (hF:EnvS K P H σ env F):EnvS K P H σ (env.set j none) F:=by
  have key:∀ {k:Nat}{s:Bool × D},(env.set j none)[k]? = some (some s)->env[k]? = some (some s):=fun {k s} e=>by
    by_cases hk:j=k
    . subst hk
      by_cases hj:j < env.length
      . rw [List.getElem?_set_self hj] at e;cases e
      . rw [List.getElem?_eq_none (by simp;omega)] at e;cases e
    . rwa [List.getElem?_set_ne hk] at e
  refine⟨fun k o d e=>hF.ok k o d (key e),fun k d e=>?_⟩
  obtain⟨a1,a2,a3,a4⟩:=hF.own k d (key e)
  exact⟨a1,a2,a3,fun l s hl es=>a4 l s hl (key es)⟩
theorem SInv.drop {K:Frag}{P H:Hp}{σ:L2.St}{env:En}(j:Nat) (h:SInv K P H σ env):SInv K P H σ (env.set j none) :=
  ⟨h.same,by rw [List.length_set];exact h.len,h.ex.imp fun _ hF=>hF.drop j⟩
theorem SInv.put {K:Frag}{P H:Hp}{σ:L2.St}{env:En}(j:Nat) (x:Option V) (h:SInv K P H σ env) (hj:env[j]? = some none):SInv K P H (σ.set j x) env:=by
  obtain⟨F,hF⟩:=h.ex
  have key:∀ {k:Nat}{s:Bool × D},env[k]? = some (some s)->j ≠ k:=fun e z=>by rw [z,e] at hj;cases hj
  refine⟨h.same,by rw [List.length_set];exact h.len,F,fun k o d e=>?_,fun k d e=>?_⟩
  . obtain⟨v,hv,r⟩:=hF.ok k o d e
    exact⟨v,by rw [List.getElem?_set_ne (key e)];exact hv,r⟩
  . obtain⟨a1,a2,a3,a4⟩:=hF.own k d e
    exact⟨a1,a2,fun v hv=>a3 v (by rwa [List.getElem?_set_ne (key e)] at hv),a4⟩
open Classical in
section
variable {X:Cx}{i j:Nat}{x y:Str}{d:D}{v0:V}{e:Expr}{pos py p px apos cpos epos:Pos}
end
section
variable {X:Cx}{m m' m1 m2:Bool}{rs rs' rs1 rs2:List Nat}{e a b c:Expr}{f fa fb:En->Option D}{pos p p2 p3 pos':Pos}
end
section
variable {X:Cx}{s g t f:Nat}{sts:List Stmt}
end
section
variable {X:Cx}{m m' m1 m2:Bool}{rs rs' rs1 rs2:List Nat}{e a b c:Expr}{f fa fb:En->Option D}{pos p p2 p3 pos':Pos}
theorem Z0c {K:Frag}{H:Hp}{ds:List D}{vs:List V}{fp:List Addr}(h:Reps K m H ds vs fp):Reps K false H ds vs fp:=by
  cases m
  . exact h
  . exact Reps.weak _ _ _ h
noncomputable def uL (fa:En->Option D) (fl fh:En->Option (Option Int)):En->Option D:=fun env=>match fa env,fl env,fh env with
  | some (.lst ds),some l,some h=>some (.lst (cutD ds l h))
  | _,_,_=>none
theorem Z0o {lo hi:Option Expr}{fl fh:En->Option (Option Int)}{p2:Pos}(ha:QE X m1 rs a fa) (hl:QO X lo fl) (hu:QO X hi fh):QE X false rs (.Subscript a (.Slice lo hi none p2) pos) (uL fa fl fh) :=
  .mk (L2.pe_slice (SlR.or L0 B7) ha hl hu) fun σ H Q ⟨env,F,d,ok,e,q⟩=>by
    unfold uL at e
    split at e
    . rename_i ds l h h1 h2 h3
      cases e
      refine⟨env,F,_,ok,h1,fun v H1 f1 s1 r1 c1=>⟨env,F,l,ok.same s1,h2,fun H2 s2=>⟨env,F,h,ok.same (s1.trans s2),h3,fun H3 s3=>.inl ?_⟩⟩⟩
      obtain⟨p,vs,fp',rfl,hsq,hr,hsub⟩:=bW (r1.same (s2.trans s3))
      refine⟨p,vs,rfl,hsq,fun p' hp=>?_⟩
      obtain⟨f',e3,e4⟩:=Reps.cut (Z0c hr) l h
      exact q _ _ (p' :: f') (((s1.trans s2).trans s3).trans (bM hp)) (kT hp e3) (lN ((s1.trans s2).trans s3) hp e3 ⟨fun b hb=>c1.1 b (hsub b (e4 b hb)),fun z=>(by cases z)⟩)
    . cases e
end
section
variable {X:Cx}
variable {m1 m2:Bool}{rs1 rs2:List Nat}{fk fv:En->Option D}{call:Expr}{pos:Pos}{i:Nat}
end
section
variable {X:Cx}{pins:List (Addr × Obj)}{σ:L2.St}{H:Hp}{s:Shared}{d:Addr}{kvs:List (Key × V)}{o:Obj}
end
noncomputable def Z2L:Key->D
  | .inl i=>.int i
  | .inr x=>.str x
theorem Z16 {K:Frag}{H:Hp}{st:Bool}(k:Key):Rep K st H (Z2L k) (kV k) []:=by
  cases k <;> (simp only [Z2L,Rep];exact⟨rfl,trivial⟩)
mutual
theorem Rep.keepF {K:Frag}{st:Bool}{H H':Hp}(ht:∀ a xs,SqT K H a xs->SqT K H' a xs):∀ (d:D) (v:V) (fp:List Addr),flat d=true->Rep K st H d v fp->Rep K st H' d v fp
  | .non,v,fp,_,h=>by simpa only [Rep] using h
  | .bl _,v,fp,_,h=>by simpa only [Rep] using h
  | .int _,v,fp,_,h=>by simpa only [Rep] using h
  | .str _,v,fp,_,h=>by simpa only [Rep] using h
  | .tup ds,v,fp,f,h=>by
    simp only [Rep] at h ⊢
    obtain⟨a,vs,e,hs,hr⟩:=h
    exact⟨a,vs,e,ht _ _ hs,Reps.keepF ht ds vs fp (by simpa only [PD.flat] using f) hr⟩
  | .lst _,v,fp,f,h=>by simp only [PD.flat] at f;cases f
  | .obj _ _ _,v,fp,f,h=>by simp only [PD.flat] at f;cases f
  | .dk _ _,v,fp,f,h=>by simp only [PD.flat] at f;cases f
  | .dt _ _,v,fp,f,h=>by simp only [PD.flat] at f;cases f
  | .exc _,v,fp,f,h=>by simp only [PD.flat] at f;cases f
theorem Reps.keepF {K:Frag}{st:Bool}{H H':Hp}(ht:∀ a xs,SqT K H a xs->SqT K H' a xs):∀ (ds:List D) (vs:List V) (fp:List Addr),flats ds=true->Reps K st H ds vs fp->Reps K st H' ds vs fp
  | [],vs,fp,_,h=>by simpa only [Reps] using h
  | d :: ds,vs,fp,f,h=>by
    simp only [Reps] at h ⊢
    simp only [flats,Bool.and_eq_true] at f
    obtain⟨v,r,f1,f2,e1,e2,h1,h2⟩:=h
    exact⟨v,r,f1,f2,e1,e2,Rep.keepF ht d v f1 f.1 h1,Reps.keepF ht ds r f2 f.2 h2⟩
end
section
variable {X:Cx}{rs:List Nat}{elt:Expr}{ifs:List Expr}{scope:Scope}{fr:List Nat}{fc:En->Option Bool}{fe:En->Option D}{pos px p:Pos}{i:Nat}{x y:Str}
end
section
variable {X:Cx}{m m1 m2:Bool}{rs rs1 rs2:List Nat}{o e:Expr}{fo fe:En->Option D}{apos cpos:Pos}
end
section
variable {X:Cx}{m m1 m2:Bool}{rs rs1 rs2:List Nat}{k v:Expr}{fk fv:En->Option D}{pos:Pos}{ks:List (Option Expr)}{vs:List Expr}{fp fr:En->Option (List (Key × Int))}
end
section
variable {X:Cx}{m m1:Bool}{rs rs1:List Nat}{a:Expr}{fa:En->Option D}{pos:Pos}
end
noncomputable def sW:List D->Option (List Key)
  | []=>some []
  | d :: r=>match keyOf d,sW r with
    | some k,some ks=>some (k :: ks)
    | _,_=>none
theorem mF {K:Frag}{m:Bool}{H:Hp}:∀ {kd:List D}{vs:List V}{fp:List Addr}{ks:List Key},sW kd=some ks->Reps K m H kd vs fp->vs=ks.map kV
  | [],vs,fp,ks,h,r=>by
    cases h
    simp only [Reps] at r
    rw [r.1];rfl
  | d :: kd,vs,fp,ks,h,r=>by
    unfold sW at h
    split at h
    . rename_i k k2 e1 e2
      cases h
      simp only [Reps] at r
      obtain⟨v,us,f1,f2,rfl,rfl,r1,r2⟩:=r
      rw [mF e2 r2,qC e1 r1];rfl
    . cases h
theorem Z18 {k:List Key}:∀ {l:List (List Key)}{m:Nat},ixT k l=some m->m < l.length
  | [],m,h=>by cases h
  | x :: l,m,h=>by
    unfold ixT at h
    by_cases hx:x=k
    . rw [if_pos hx] at h;cases h;simp
    . rw [if_neg hx] at h
      cases hi:ixT k l with
      | none=>rw [hi] at h;cases h
      | some m'=>rw [hi] at h;cases h;have:=Z18 hi;simp;omega
noncomputable def dC (fa fb:En->Option D):En->Option D:=fun env=>match fa env,fb env with
  | some (.dt ks ds),some (.tup kd)=>match sW kd with
    | some k=>match ixT k ks with
      | some n=>ds[n]?
      | none=>none
    | none=>none
  | _,_=>none
noncomputable def uN (fa fb:En->Option D):En->Option Bool:=fun env=>match fa env,fb env with
  | some (.tup kd),some (.dt ks ds)=>match sW kd with
    | some k=>some (ixT k ks).isSome
    | none=>none
  | _,_=>none
section
variable {X:Cx}{m m' m1 m2 m3:Bool}{rs rs' rs1 rs2 rs3:List Nat}{e a b c:Expr}{f fa fb fc:En->Option D}{pos p pos':Pos}{i:Nat}{x:Str}
theorem L5 {K:Frag}{H:Hp}{d:D}{v:V}{fp:List Addr}(h:Rep K m H d v fp):Rep K false H d v fp:=by
  cases m
  . exact h
  . exact Rep.weak _ _ _ h
theorem vS {K:Frag}{H:Hp}{ks:List (List Key)}{ds:List D}{v:V}{fp:List Addr}(r:Rep K m H (.dt ks ds) v fp):∃ a es ep vs fp',v=.ref a /\ es.map (·.1)=ks /\ es.map (·.2.2)=vs /\ mJ K H es /\ Reps K m H ds vs fp' /\ Rd H a (.dE es ep) /\ ∀ b ∈ fp',b ∈ fp:=by
  simp only [Rep] at r
  obtain⟨a,es,ep,vs,fp',e,hk,hv,ht,hr,hs⟩:=r
  rcases hs with ⟨rfl,hs⟩ | ⟨_,rfl,o,hs⟩
  . exact⟨a,es,ep,vs,fp',e,hk,hv,ht,hr,.inl hs,fun b hb=>List.mem_cons_of_mem _ hb⟩
  . exact⟨a,es,ep,vs,fp,e,hk,hv,ht,hr,.inr ⟨o,hs⟩,fun b hb=>hb⟩
theorem K5 {es:List Ent}{k:List Key}{n:Nat}{v:V}(h:ixT k (es.map (·.1))=some n) (e:(es.map (·.2.2))[n]? = some v):kP es k=some v:=by rw [oU];exact pC h e
theorem yC {es:List Ent}{k:List Key}(h:ixT k (es.map (·.1))=none):kP es k=none:=by rw [oU];exact tG h
theorem yD {es:List Ent}{k:List Key}:(kP es k).isSome=(ixT k (es.map (·.1))).isSome:=by
  cases h:ixT k (es.map (·.1)) with
  | none=>rw [yC h];rfl
  | some n =>
    have hl:=Z18 h
    rw [List.length_map] at hl
    rw [K5 h (v:=es[n].2.2) (by simp [hl])];rfl
theorem fM (hu:X.A.units + 1 < cLine) (ha:QE X m1 rs a fa) (hb:QE X m2 rs2 b fb) (hs:Z4p b:=by intro _ _;rfl):QE X false rs (.Subscript a b pos) (dC fa fb) :=
  .mk (L2.pe_eget hu ha hb hs) fun σ H Q ⟨env,F,d,ok,e,q⟩=>by
    unfold dC at e
    split at e
    . rename_i ks ds kd h1 h2
      split at e
      . rename_i k hk
        split at e
        . rename_i n hn
          refine two ok h1 h2 fun v u H' f1 f2 s r1 r2 c1 c2=>?_
          obtain⟨a,es,ep,vs,fp',rfl,hks,hvs,hko,hr,hrd,hsub⟩:=vS r1
          simp only [Rep] at r2
          obtain⟨b,kvs,rfl,hsq,hrk⟩:=r2
          rw [mF hk hrk] at hsq
          obtain⟨w,g,g1,g2,g3,_⟩:=hr.get e
          refine⟨a,w,rfl,⟨es,ep,k,b,hrd,hko,rfl,hsq,?_⟩,q w H' g s (L5 g2) ⟨fun b hb=>c1.1 b (hsub b (g3 b hb)),fun z=>(by cases z)⟩⟩
          subst hks hvs
          exact (K5 hn g1).symm
        . cases e
      . cases e
    . cases e
theorem Q5 {K:Frag}{σ:L2.St}{H:Hp}{Q:VK}(neg:Bool) {env:En}{F:Nat->List Addr}{bb:Bool}(ok:EnvOk K H σ env F) (e:uN fa fb env=some bb) (q:∀ H',Same H H'->Q (.bl (if neg then !bb else bb)) H') :
    tD K m1 rs1 fa σ H fun y H1=>tD K m2 rs2 fb σ H1 fun x H2=>∃ a o,x=.ref a /\ Y9 K H2 a y o /\ Q (.bl (if neg then !o.isSome else o.isSome)) H2:=by
  unfold uN at e
  split at e
  . rename_i kd ks ds h1 h2
    split at e
    . rename_i k hk
      cases e
      refine two ok h1 h2 fun v u H' f1 f2 s r1 r2 _ _=>?_
      obtain⟨a,es,ep,vs,fp',rfl,hks,hvs,hko,hr,hrd,hsub⟩:=vS r2
      simp only [Rep] at r1
      obtain⟨b,kvs,rfl,hsq,hrk⟩:=r1
      rw [mF hk hrk] at hsq
      refine⟨a,_,rfl,⟨es,ep,k,b,hrd,hko,rfl,hsq,rfl⟩,?_⟩
      rw [yD,hks]
      exact q H' s
    . cases e
  . cases e
theorem vD (hu:X.A.units + 1 < cLine) (ha:QE X m1 rs1 a fa) (hb:QE X m2 rs2 b fb) (hm:behindInMarks .NotIn b=false:=by with_unfolding_all rfl):QT X (.Compare a [.NotIn] [b] pos) (mQ (uN fa fb)) :=
  .mk (L2.pt_cmp (T7 hu ha hb) hm) fun σ H Q ⟨env,F,bb,ok,e,q⟩=>by
    unfold mQ at e
    cases h1:uN fa fb env with
    | none=>rw [h1] at e;cases e
    | some b' =>
      rw [h1] at e
      cases e
      exact Q5 (Q:=fun v H'=>∃ k,v=.bl k /\ Q k H') true ok h1 fun H' s=>⟨_,rfl,q H' s⟩
noncomputable def vB (i:Nat) (fk fv:En->Option D):En->Res:=fun env=>match fv env,env[i]?,fk env with
  | some d,some (some (true,.dt ks ds)),some (.tup kd)=>match sW kd with
    | some k=>if ixT k ks=none /\ ks.length < 1000 then .next (env.set i (some (true,.dt (ks ++ [k]) (ds ++ [d])))) else .bad
    | none=>.bad
  | _,_,_=>.bad
theorem L9 {fk fv:En->Option D}{value key:Expr}(hu:X.A.units + 1 < cLine) (i:Nat) (hk:QE X m2 rs2 key fk) (hv:QE X true [] value fv) (hN:X.N[i]? = some x:=by rfl) (hvis:Vis X.env.scope x:=by first | exact Or.inl rfl | exact Or.inr (Or.inl rfl) | exact Or.inr (Or.inr rfl)) (hd:(x == ("__debug__" : Str))=false:=by decide) (hcd:(x == ("__classdict__" : Str))=false:=by decide)
    (hs:swapsWith value (some (.Subscript (.Name x p) key pos')) pos.line X.env=pure false:=by rfl) :
    QS X (.Assign [.Subscript (.Name x p) key pos'] value pos) (vB i fk fv):=.mk (Z2m hu (jA hN hvis hd hcd) hk hv hs) fun E σ H ⟨P,env,I,q⟩=>by
  obtain⟨F,hF⟩:=I.ex
  unfold vB at q
  split at q
  . rename_i d ks ds kd h1 h2 h3
    split at q
    . rename_i k hkd
      split at q
      . rename_i hcond
        obtain⟨w,hv1,_⟩:=hF.ok i true _ h2
        obtain⟨o1,o2,o3,o4⟩:=hF.own i _ h2
        have r0:=o3 w hv1
        simp only [Rep] at r0
        obtain⟨a,es,ep0,vs,fp',rfl,hks,hvs,hko,hr,hst⟩:=r0
        obtain⟨hFi,ha⟩:F i=a :: fp' /\ H a=some (.dE es ep0):=by
          rcases hst with z | ⟨z,_⟩
          . exact z
          . cases z
        refine⟨env,F,d,hF.ok,h1,fun v H1 fpv s r c=>⟨.ref a,hv1,env,F,.tup kd,hF.ok.same s,h3,fun kv H2 fp2 s2 r2 c2=>?_⟩⟩
        simp only [Rep] at r2
        obtain⟨b,kvs,rfl,hsq,hrk⟩:=r2
        rw [mF hkd hrk] at hsq
        have s12:=s.trans s2
        have ha':=s12 _ _ ha
        have hel:es.length < 1000:=by have:=congrArg List.length hks;rw [List.length_map] at this;omega
        obtain⟨cn,cf⟩:=c.2 rfl
        have naf:a ∉ fp':=by rw [hFi] at o1;exact (List.nodup_cons.mp o1).1
        have nd2:fp'.Nodup:=by rw [hFi] at o1;exact (List.nodup_cons.mp o1).2
        have nav:a ∉ fpv:=fun z=>by have:=cf a z;rw [ha] at this;cases this
        have ko2:mJ X.K H2 es:=fun e he=>iY (Kp.same s12 []) (hko e he)
        refine⟨a,rfl,es,ep0,k,b,ha',ko2,rfl,hsq,yC (by rw [hks];exact hcond.1),eJ (n:=es.length) (by omega),fun ep'=>q _ _ ?_⟩
        refine oC (fp2:=fp' ++ fpv) (I.same.trans s12) I.len (hF.grow s12) h2 hv1 hFi ha' (by intro xs z;cases z) (by intro x u z;cases z) (fun st=>?_) ?_ fun b' hb'=>?_
        . simp only [Rep]
          have kp:Kp (fp' ++ fpv) H2 (upd H2 a (.dE (es ++ [(k,b,v)]) ep')):=Kp.upd ha' (by intro xs z;cases z) (by intro x u z;cases z) (by simp only [List.mem_append,not_or];exact⟨naf,nav⟩)
          refine⟨a,es ++ [(k,b,v)],ep',vs ++ [v],fp' ++ fpv,rfl,by rw [List.map_append,hks];rfl,by rw [List.map_append,hvs];rfl,fun e he=>?_,?_,.inl ⟨rfl,aY⟩⟩
          . rcases List.mem_append.mp he with z | z
            . exact iY kp (ko2 e z)
            . rw [List.mem_singleton.mp z];exact iY kp hsq
          . have all:=Reps.keep _ _ _ kp ((hr.same s12).snoc (r.same s2))
            cases st
            . exact Reps.weak _ _ _ all
            . exact all
        . have dis:∀ z ∈ fp',z ∉ fpv:=fun z hz hz2=>by
            obtain⟨o,ho⟩:=Reps.dom _ _ _ hr z hz
            have:=cf z hz2
            rw [ho] at this;cases this
          simp only [List.nodup_cons,List.mem_append,not_or]
          exact⟨⟨naf,nav⟩,List.nodup_append.mpr ⟨nd2,cn,fun x hx y hy e=>dis x hx (e ▸ hy)⟩⟩
        . rcases List.mem_append.mp hb' with z | z
          . exact .inl z
          . refine .inr ⟨I.same.free (cf b' z),fun j' s' ej hbj=>?_⟩
            obtain⟨o,ho⟩:=hF.dom ej _ hbj
            have:=cf b' z
            rw [ho] at this;cases this
      . exact q.elim
    . exact q.elim
  . exact q.elim
end
section
variable {prog:Program}{w:World}{A:Around}{E:Value->Shared->Prop}{s:Shared}{d I:Addr}{es:Array DictEntry}{ep:Nat}
theorem V5 {Z:Value->Shared->Prop}(hd:(d == sysModules)=false) (x:VEnts s.heap d es ep)
    (z:Z (.ref s.heap.objs.size) { s with heap:=s.heap.push { cls:=.type "dict_keyiterator",data:=.fields #[.ref d,.int 0 0,.int es.size 0,.int ep 0] } }):wpAny (model prog w) A (pyIter (.ref d)) Z E s:=by
  obtain⟨od,atD,clD,daD⟩:=id x
  have hT:s.TypeIs (.ref d) "dict":=x.ty
  refine wpAny_pyIter_slot hT PySem.F.slot_dict_iter (wpAny_call_entry PySem.F.slot_dict_iter hT PySem.F.entry_dict_iter ?_ (PySem.F.args_dict_iter_1 _))
  unfold Builtin.«dict.__iter__»
  refine wpAny_bind ?_
  unfold Builtin.Dict.dictSlotNone
  refine wpAny_bind (wpAny_notOrdered_dict hT ?_)
  show wpAny _ _ (pure (Value.ref d)) _ _ s
  refine wpAny_pure ?_
  show wpAny _ _ (Builtin.Dict.showsAll d >>= _) _ _ s
  unfold Builtin.Dict.showsAll
  rw [if_neg (by rw [hd];exact Bool.false_ne_true)]
  refine wpAny_bind (wpAny_pure ?_)
  refine wpAny_bind (wpAny_dictEntries atD daD ?_)
  refine wpAny_bind (wpAny_dictEpoch atD daD ?_)
  refine wpAny_bind (wpAny_newObj_type (wpAny_pure ⟨_,rfl,"dict_keyiterator",_,⟨_,Heap.get?_push_size _ rfl,rfl⟩,PySem.F.slot_dict_keyiterator_next.lookup,?_⟩))
  simpa [rawInt] using z
theorem V6 {i:Nat}{Z:Option Value->Shared->Prop}(it:s.heap.IsKeyIter I d i es.size ep) (x:VEnts s.heap d es ep) (hi:i < es.size)
    (z:∀ hp,hp.IsKeyIter I d (i + 1) es.size ep->Heap.SameBut I s.heap hp->Z (some es[i].key) { s with heap:=hp }):wpAny (model prog w) A (pyNext (.ref I)) Z E s:=by
  obtain⟨oI,atI',clI,daI⟩:=id it
  obtain⟨od,atD,clD,daD⟩:=id x
  unfold pyNext;refine wpAny_bind (wpAny_attempt (wpAny_callSpecial?_slot (name:=Str.ofString "__next__") it.typeIs PySem.F.slot_dict_keyiterator_next
    (wpAny_call_entry PySem.F.slot_dict_keyiterator_next it.typeIs PySem.F.entry_dict_keyiterator_next ?_ (PySem.F.args_dict_keyiterator_next_1 _))))
  refine wpAny_bind (wpAny_pure ?_);refine wpAny_bind ?_;refine wpAny_bind ?_
  first | refine wpAny_bind (wpAny_typeNameOfWhole_keyiter it.typeIs (wpAny_pure ?_)) | refine wpAny_bind (wpAny_typeNameOf_keyiter it.typeIs (wpAny_pure ?_))
  refine wpAny_bind (wpAny_fieldsOf atI' daI ?_);simp only [show Builtin.Dict_items.ownsTuple "dict_keyiterator" = false by decide,Bool.false_eq_true,if_false]
  show wpAny _ _ (if (Value.ref d == Value.none)=true then _ else _) _ _ _
  rw [if_neg (show ¬ ((Value.ref d == Value.none)=true) from fun z=>Bool.false_ne_true z)];refine wpAny_bind (wpAny_pure ?_);refine wpAny_bind (wpAny_dictEntries atD daD ?_)
  rw [if_neg (by simp)];refine wpAny_bind (wpAny_pure ?_);refine wpAny_bind (wpAny_dictEpoch atD daD ?_);rw [if_neg (by simp)];refine wpAny_pure ?_
  simp only [show ¬ ((i:Int) < 0) by omega,if_false,Int.toNat_natCast,Array.getElem?_eq_getElem hi];refine wpAny_bind ?_
  first | refine wpAny_bind (wpAny_typeNameOfWhole_keyiter it.typeIs (wpAny_pure ?_)) | refine wpAny_bind (wpAny_typeNameOf_keyiter it.typeIs (wpAny_pure ?_))
  refine wpAny_bind (wpAny_isOneOf_keyiter it.typeIs ?_);show wpAny _ _ (setField (.ref I) 1 (rawInt ((i:Int) + 1)) >>= _) _ _ _
  refine wpAny_bind (wpAny_setField atI' daI (by simp) ?_)
  have it':(s.heap.update I (Obj.mapFields (·.setIfInBounds 1 (rawInt ((i:Int) + 1))))).IsKeyIter I d (i + 1) es.size ep :=
    ⟨_,Heap.get?_update_self _ atI' (Obj.isFreed_of_fields (Obj.data_mapFields daI _)),(Obj.cls_mapFields ..).trans clI,by rw [Obj.data_mapFields daI];simp [rawInt]⟩
  refine wpAny_bind (wpAny_holding ?_)
  refine wpAny_bind (wpAny_isOneOf_keyiter (s:={ s with heap:=s.heap.update I (Obj.mapFields (·.setIfInBounds 1 (rawInt ((i:Int) + 1)))) }) it'.typeIs ?_)
  show wpAny _ _ (pure es[i].key) _ _ _
  exact wpAny_pure (wpAny_pure ⟨_,rfl,wpAny_pure (z _ it' (Heap.SameBut.update ..))⟩)
theorem Z15 {Z:Option Value->Shared->Prop}{i:Nat}(h0:A.handled=none) (it:s.heap.IsKeyIter I d i es.size ep) (hge:es.size <= i) (x:VEnts s.heap d es ep)
    (z:∀ hp,Heap.ExtBut I s.heap hp->Z none { s with heap:=hp }):wpAny (model prog w) A (pyNext (.ref I)) Z E s:=by
  obtain⟨oI,atI',clI,daI⟩:=id it
  obtain⟨od,atD,clD,daD⟩:=id x
  unfold pyNext;refine wpAny_bind (wpAny_attempt (wpAny_callSpecial?_slot (name:=Str.ofString "__next__") it.typeIs PySem.F.slot_dict_keyiterator_next
    (wpAny_call_entry PySem.F.slot_dict_keyiterator_next it.typeIs PySem.F.entry_dict_keyiterator_next ?_ (PySem.F.args_dict_keyiterator_next_1 _))))
  refine wpAny_bind (wpAny_pure ?_);refine wpAny_bind ?_;refine wpAny_bind ?_
  first | refine wpAny_bind (wpAny_typeNameOfWhole_keyiter it.typeIs (wpAny_pure ?_)) | refine wpAny_bind (wpAny_typeNameOf_keyiter it.typeIs (wpAny_pure ?_))
  refine wpAny_bind (wpAny_fieldsOf atI' daI ?_);simp only [show Builtin.Dict_items.ownsTuple "dict_keyiterator" = false by decide,Bool.false_eq_true,if_false]
  show wpAny _ _ (if (Value.ref d == Value.none)=true then _ else _) _ _ _
  rw [if_neg (show ¬ ((Value.ref d == Value.none)=true) from fun z=>Bool.false_ne_true z)];refine wpAny_bind (wpAny_pure ?_);refine wpAny_bind (wpAny_dictEntries atD daD ?_)
  rw [if_neg (by simp)];refine wpAny_bind (wpAny_pure ?_);refine wpAny_bind (wpAny_dictEpoch atD daD ?_);rw [if_neg (by simp)];refine wpAny_pure ?_
  simp only [show ¬ ((i:Int) < 0) by omega,if_false,Int.toNat_natCast,Array.getElem?_eq_none hge];refine wpAny_bind ?_
  first | refine wpAny_bind (wpAny_typeNameOfWhole_keyiter it.typeIs (wpAny_pure ?_)) | refine wpAny_bind (wpAny_typeNameOf_keyiter it.typeIs (wpAny_pure ?_))
  show wpAny _ _ (setField (.ref I) 0 .none >>= _) _ _ _;refine wpAny_bind (wpAny_setField atI' daI (by simp) ?_)
  show wpAny _ _ (newExc (.type "StopIteration") [] >>= _) _ _ _;refine wpAny_bind ?_;simp only [newExc,newTuple]
  refine wpAny_bind (wpAny_newObj_type ?_ (by size_fits));refine wpAny_bind (m:=firstArgMember _ _) (wpAny_of_eq (a:=Value.none) (by first | rfl | (simp only [firstArgMember];rfl)) ?_)
  refine wpAny_newObj_type ?_ (by size_fits);simp only [raiseNew];refine wpAny_bind (wpAny_handled ?_);rw [show A.in1.handled=none from h0]
  refine wpAny_bind (wpAny_pure (wpAny_throw ?_));refine wpAny_bind (wpAny_isInstance (T := "StopIteration") (b:=true) ⟨_,Heap.get?_push_size _ rfl,rfl⟩ isSubtype_stop ?_)
  exact wpAny_pure (z _ (((Heap.SameBut.update ..).extBut.push _).push _))
end
noncomputable def Z4q (d:Addr) (es:List Ent) (ep:Nat):It :=
  ⟨fun i H=>Rd H d (.dE es ep) /\ i < es.length,fun i H x H'=>H'=H /\ ∃ e,es[i]? = some e /\ x=.ref e.2.1,fun i H=>Rd H d (.dE es ep) /\ es.length <= i⟩
section
variable {X:Cx}{d:Addr}{es:List Ent}{ep:Nat}
theorem KE.get {es:List Ent}{xs:List (List Key × Addr × Value)}(r:KE es xs):∀ {i:Nat}{e:Ent},es[i]? = some e->∃ x,xs[i]? = some x /\ e.2.1=x.2.1:=by
  induction r with
  | nil=>intro i e h;simp at h
  | cons h t ih =>
    intro i e he
    cases i with
    | zero=>simp at he;subst he;exact⟨_,rfl,h.2.1⟩
    | succ i=>exact ih (by simpa using he)
theorem xJ {pins:List (Addr × Obj)}{σ:L2.St}{H:Hp}{s:Shared}(I:Inv X pins σ H s) (e:Rd H d (.dE es ep)):(d == sysModules)=false /\ ∃ es':Array DictEntry,es'.size=es.length /\ VEnts s.heap d es' ep /\ ∀ i (h:i < es'.size) e,es[i]? = some e->es'[i].key=.ref e.2.1:=by
  obtain⟨z,y,xs,r,o,es',h1,h2,h3,h4,h5⟩:=(show ObjOk X.prog X.w H s.heap d (.dE es ep) from e.ok I.hok)
  have hsz:es'.size=es.length:=by rw [KE.len r];exact size_of_entries h4
  refine⟨y,es',hsz,⟨o,h1,h2,h3⟩,fun i hi e he=>?_⟩
  obtain⟨x,hx,ex⟩:=KE.get r he
  have e1:=entry_at h4 i
  rw [hx,Array.getElem?_eq_getElem hi] at e1
  simp only [Option.map_some,Option.some.injEq] at e1
  rw [e1,ex];rfl
theorem B1 {P:Program}{w:World}{K:Frag}{tg:Expr}(it:Addr) (hne:d ≠ it):xQ P w K tg (Z4q d es ep) [it] it (fun i h=>h.IsKeyIter it d i es.length ep) where
  mem:=by simp
  obj:=fun i h st b hb=>by
    have e:b=it:=by simpa using hb
    subst e
    obtain⟨o,e,c,d⟩:=st
    exact⟨o,e,fun v z=>by rw [d] at z;cases z⟩
  keep:=fun i h h' st k=>st.at fun o e=>k it (by simp) o e
  item:=by
    intro X hP hw hK hc i pins s σ H E I hf st hg
    subst hP hw hK
    obtain⟨hH,hi⟩:=hg
    obtain⟨_,es',hsz,ve,key⟩:=xJ I hH
    rw [<- hsz] at st
    obtain⟨f0,f1,f2,f3,f4,f5⟩:=hf it (by simp)
    have hi':i < es'.size:=by omega
    have he:=List.getElem?_eq_getElem hi
    refine V6 st ve hi' fun h' st' sb=>?_
    have I1:Inv X pins σ H { s with heap:=h' }:=I.turned (t':=s.toks) (fun b o hb e=>(sb.2 b hb).trans e) f0 f1 f3 f4 f5
    obtain⟨o2,e2,c2,d2⟩:=id st'
    rw [key i hi' _ he]
    rw [hsz] at st'
    exact⟨_,rfl,zG (s:={ s with heap:=h' }) e2 c2 d2 (by decide) ⟨.ref es[i].2.1,H,I1,rfl,⟨rfl,_,he,rfl⟩,st',fun b hb=>(hf b hb).1⟩⟩
  done:=by
    intro X hP hw hK hc i pins s σ H E I hf st hg
    subst hP hw hK
    obtain⟨hH,hi⟩:=hg
    obtain⟨_,es',hsz,ve,key⟩:=xJ I hH
    rw [<- hsz] at st
    obtain⟨f0,f1,f2,f3,f4,f5⟩:=hf it (by simp)
    exact Z15 (I.ok.hd hc) st (by omega) ve fun h' eb=>⟨rfl,I.turned (t':=s.toks) (fun b o hb e=>eb b o hb e) f0 f1 f3 f4 f5⟩
  self:=fun _ _ _ _ _ st h=>wpAny_pyIter_keyiter st h
theorem Z0C {tg iter:Expr}{td:TE}(h:PE X iter td):PI X tg iter (fun σ H R=>td σ H fun x H1=>∃ d es ep,x=.ref d /\ Rd H1 d (.dE es ep) /\ R (Z4q d es ep) H1):=by
  intro pins s σ H R I q
  refine thn (h pins s σ H _ I q) fun v s1 ⟨x,H1,I1,r1,d,es,ep,ex,hd,q⟩=>?_
  subst ex
  cases r1
  obtain⟨hs,es',hsz,ve,key⟩:=xJ I1 hd
  have hlt:=ve.lt
  refine V5 hs ve ?_
  refine⟨s1.heap.objs.size,[s1.heap.objs.size],_,_,H1,rfl,I1.kept (t':=s1.toks) fun b o e=>Heap.get?_push_of_some _ e,B1 (es:=es) (ep:=ep) s1.heap.objs.size (Nat.ne_of_lt hlt),⟨_,Heap.get?_push_size _ rfl,rfl,by rw [<- hsz];rfl⟩,fun b hb=>?_,q⟩
  have e:b=s1.heap.objs.size:=by simpa using hb
  subst e
  exact I1.fpOk (Nat.le_refl _) (I1.hok.fresh (Nat.le_refl _))
end
noncomputable def Q0 (k:List Key):D:=.tup (k.map Z2L)
theorem vK {K:Frag}{H:Hp}:∀ (k:List Key),Reps K false H (k.map Z2L) (k.map kV) []
  | []=>by simp only [List.map_nil,Reps];exact⟨trivial,trivial⟩
  | a :: k=>by
    simp only [List.map_cons,Reps]
    exact⟨_,_,[],[],rfl,rfl,Z16 a,vK k⟩
theorem Z1g {K:Frag}{H0:Hp}{ks:List (List Key)}{a:Addr}{es:List Ent}{ep:Nat}{fp:List Addr}(hk:es.map (·.1)=ks) (ht:mJ K H0 es) (hs:Rd H0 a (.dE es ep)) (ha:H0 a=some (.dE es ep)->a ∈ fp):rE K (Z4q a es ep) H0 (ks.map Q0) fp:=fun H k i=>by
  have hrd:Rd H a (.dE es ep):=by
    rcases hs with h | ⟨o,h⟩
    . exact .inl (k.fps a (ha h) _ h)
    . exact .inr ⟨o,k.frz _ _ _ h⟩
  subst hk
  refine⟨fun d hd=>?_,fun hl=>⟨hrd,by rw [List.length_map,List.length_map] at hl;exact hl⟩⟩
  rw [List.getElem?_map,List.getElem?_map] at hd
  cases he:es[i]? with
  | none=>rw [he] at hd;cases hd
  | some e =>
    rw [he] at hd
    cases hd
    refine⟨⟨hrd,(List.getElem?_eq_some_iff.mp he).1⟩,fun x H' ⟨eH,e',he',ex⟩=>?_⟩
    subst eH ex
    rw [he] at he'
    cases he'
    refine⟨Same.refl _,[],?_,fun b hb=>(by cases hb)⟩
    simp only [Q0,Rep]
    exact⟨_,_,rfl,iY k (ht e (List.mem_of_getElem? he)),vK _⟩
noncomputable def Z1q (fa:En->Option D):En->Option (List D):=fun env=>match fa env with
  | some (.dt ks ds)=>some (ks.map Q0)
  | _=>none
section
variable {X:Cx}{m1:Bool}{rs:List Nat}{tg iter:Expr}{fa:En->Option D}
theorem Z0l (ha:QE X m1 rs iter fa):QI X tg rs iter (Z1q fa):=.mk (Z0C ha) fun σ H R ⟨env,F,ds,ok,e,q⟩=>by
  unfold Z1q at e
  split at e
  . rename_i ks ds' h1
    cases e
    refine⟨env,F,_,ok,h1,fun v H' fp s r c=>?_⟩
    have dm:=Rep.dom _ _ _ r
    have r0:=L5 r
    simp only [Rep] at r0
    obtain⟨a,es,ep,vs,fp',rfl,hk,hv,ht,hr,hs⟩:=r0
    have hrd:Rd H' a (.dE es ep):=by
      rcases hs with ⟨_,h⟩ | ⟨_,_,o,h⟩
      . exact .inl h
      . exact .inr ⟨o,h⟩
    refine⟨a,es,ep,rfl,hrd,q _ H' fp s (Z1g hk ht hrd fun h=>?_) dm ⟨c.1,fun z=>(by cases z)⟩⟩
    rcases hs with ⟨rfl,_⟩ | ⟨_,_,o,h2⟩
    . exact List.mem_cons_self
    . rw [h] at h2;cases h2
  . cases e
end
noncomputable def Z4g (f:List Addr) (F:Nat->List Addr) (fr:List Nat) (env:En):Nat->List Addr
  | 0=>f
  | i + 1=>match (iF fr env)[i]? with
    | some (some _)=>F (fr.getD i 0)
    | _=>[]
theorem W8 {K:Frag}{H:Hp}{σ:L2.St}{env:En}{F:Nat->List Addr}{fr:List Nat}{d:D}{v:V}{f:List Addr}(ok:EnvOk K H σ env F) (r:Rep K false H d v f) :
    EnvOk K H ((hG 1 fr σ).set 0 (some v)) (some (false,d) :: iF fr env) (Z4g f F fr env):=by
  intro i o d' e
  cases i with
  | zero =>
    simp at e
    obtain⟨_,rfl⟩:=e
    exact⟨v,by simp [hG],r⟩
  | succ i =>
    simp only [List.getElem?_cons_succ] at e
    have e0:=e
    simp only [iF,List.getElem?_map] at e
    cases hj:fr[i]? with
    | none=>rw [hj] at e;cases e
    | some j =>
      rw [hj] at e
      simp only [Option.map_some,Option.some.injEq] at e
      cases hq:env[j]? with
      | none=>rw [hq] at e;cases e
      | some s =>
        rw [hq] at e
        simp only [Option.join_some] at e
        subst e
        obtain⟨w,h1,h2⟩:=ok j o d' hq
        refine⟨w,?_,?_⟩
        . simp [hG,hj,h1]
        . have:fr.getD i 0=j:=by simp [List.getD,hj]
          simp only [Z4g,e0,this]
          exact h2
theorem Z2X {K:Frag}{H:Hp}{σ:L2.St}{env:En}{F:Nat->List Addr}{fr:List Nat}{f:List Addr}(ok:EnvOk K H σ env F) {i:Nat}{b:Addr}(h:b ∈ Z4g f F fr env (i + 1)):b ∈ F (fr.getD i 0) /\ ∃ o,H b=some o:=by
  have h:b ∈ (match (iF fr env)[i]? with | some (some _)=>F (fr.getD i 0) | _=>[]):=h
  split at h
  . rename_i s hs
    refine⟨h,?_⟩
    simp only [iF,List.getElem?_map] at hs
    cases hj:fr[i]? with
    | none=>rw [hj] at hs;cases hs
    | some j =>
      rw [hj] at hs
      simp only [Option.map_some,Option.some.injEq] at hs
      have e1:fr.getD i 0=j:=by simp [List.getD,hj]
      rw [e1] at h
      cases hq:env[j]? with
      | none=>rw [hq] at hs;cases hs
      | some s' =>
        rw [hq] at hs
        simp only [Option.join_some] at hs
        subst hs
        obtain⟨o,d⟩:=s
        obtain⟨v,_,r⟩:=ok j o d hq
        exact Rep.dom _ _ _ r b h
  . cases h
section
variable {X:Cx}{m m' m1 m2:Bool}{rs ro ri:List Nat}{elt iter:Expr}{ifs:List Expr}{scope:Scope}{pos px:Pos}{x:Str}{fr:List Nat}{src:En->Option (List D)}{fc:En->Option Bool}{fe:En->Option D}
theorem K0 {K:Frag}{σ:L2.St}{H:Hp}{Q:VK}(hrs:∀ r ∈ rs,r ∈ ro) (hri:∀ i,i + 1 ∈ ri->fr.getD i 0 ∈ ro) (h:tD K false ro (bZ fr src fc fe) σ H Q) :
    yF (tDI K rs src) 1 fr (tM 0) (tDT K fc) (tD K false ri fe) σ H Q:=by
  obtain⟨env,F,d,ok,e,q⟩:=h
  unfold bZ at e
  cases h1:src env with
  | none=>rw [h1] at e;cases e
  | some ds =>
    rw [h1] at e
    simp only at e
    split at e
    . rename_i hlen
      cases h2:cR fc fe (iF fr env) ds with
      | none=>rw [h2] at e;cases e
      | some ys =>
        rw [h2] at e
        cases e
        refine⟨env,F,ds,ok,h1,fun J H1 fp s1 gv dm cd=>?_⟩
        intro acc hacc
        have hacc0:H acc=none:=s1.free hacc
        refine⟨fun i k vs H2=>i <= ds.length /\ k=ds.length - i /\ H2 acc=some (.lst vs) /\ Same H1 H2 /\ ∃ zs f,cR fc fe (iF fr env) (ds.take i)=some zs /\ Reps K false H2 zs vs f /\ (∀ b ∈ f,H b=none \/ ∃ r ∈ ro,b ∈ F r) /\ acc ∉ f,
          ⟨ds.length,Nat.zero_le _,rfl,aY,bM hacc,[],[],by simp [cR],by simp only [Reps];exact⟨trivial,trivial⟩,fun b hb=>(by cases hb),by simp⟩,?_⟩
        rintro i k vs H2 ⟨hi,hk,ha,sm,zs,f,hz,hr,hfr,hna⟩
        refine⟨ha,?_⟩
        have gi:=gv H2 (Kp.same sm fp) i
        by_cases hlt:i < ds.length
        . right
          have hd:ds[i]? = some ds[i]:=List.getElem?_eq_getElem hlt
          obtain⟨go,hy⟩:=gi.1 _ hd
          refine⟨go,fun x H3 y3=>?_⟩
          obtain⟨sm3,f3,r3,sub3⟩:=hy x H3 y3
          refine⟨⟨by simp [hG],by simp [hG]⟩,?_⟩
          have ok3:EnvOk K H3 σ env F:=ok.same ((s1.trans sm).trans sm3)
          have okin:=W8 (fr:=fr) ok3 r3
          rcases kH hd h2 hz with ⟨c1,y',c2,c3⟩ | ⟨c1,c2⟩
          . refine⟨_,_,true,okin,c1,fun H4 s4=>E6 ⟨_,_,y',okin.same s4,c2,fun v H5 fp5 s5 r5 c5=>?_⟩⟩
            have s25:Same H2 H5:=(sm3.trans s4).trans s5
            have ha4:H4 acc=some (.lst vs):=(sm3.trans s4) _ _ ha
            have ha5:H5 acc=some (.lst vs):=s25 _ _ ha
            have tell:∀ b ∈ fp5,H4 b=none \/ (∃ r ∈ ro,b ∈ F r) /\ (∃ o,H b=some o) \/ b ∈ fp:=fun b hb=>by
              rcases c5.1 b hb with z | ⟨r,hr',z⟩
              . exact .inl z
              . cases r with
                | zero=>exact .inr (.inr (sub3 b z))
                | succ j =>
                  obtain⟨z1,z2⟩:=Z2X ok z
                  exact .inr (.inl ⟨⟨_,hri j hr',z1⟩,z2⟩)
            have hna5:acc ∉ fp5:=fun z=>by
              rcases tell acc z with y | ⟨_,o,ho⟩ | y
              . rw [ha4] at y;cases y
              . rw [hacc0] at ho;cases ho
              . obtain⟨o,ho⟩:=dm acc y
                rw [hacc] at ho;cases ho
            have lv:vs.length < 1000:=by
              have:=lO hz
              have h4:=hr.length
              rw [List.length_take] at this
              omega
            refine⟨vs,ha5,eJ (Nat.le_of_lt lv),ds.length - (i + 1),by omega,hlt,rfl,aY,?_,zs ++ [y'],f ++ fp5,c3,?_,?_,?_⟩
            . intro b o hb
              have hba:b ≠ acc:=bI hb hacc
              rw [aX hba]
              exact s25 _ _ (sm _ _ hb)
            . have e1:=Reps.keep _ _ _ (Kp.upd (o':=.lst (vs ++ [v])) ha5 (by intro xs z;cases z) (by intro a b z;cases z) hna) (hr.same s25)
              have e2:=Rep.keep _ _ _ (Kp.upd (o':=.lst (vs ++ [v])) ha5 (by intro xs z;cases z) (by intro a b z;cases z) hna5) r5
              exact e1.snoc e2
            . intro b hb
              rcases List.mem_append.mp hb with z | z
              . exact hfr b z
              . rcases tell b z with y | ⟨y,_⟩ | y
                . exact .inl ((((s1.trans sm).trans sm3).trans s4).free y)
                . exact .inr y
                . exact (cd.1 b y).imp id fun⟨r,hr',hb'⟩=>⟨r,hrs r hr',hb'⟩
            . intro z
              rcases List.mem_append.mp z with z | z
              . exact hna z
              . exact hna5 z
          . refine⟨_,_,false,okin,c1,fun H4 s4=>E7 ⟨ds.length - (i + 1),vs,by omega,hlt,rfl,(sm3.trans s4) _ _ ha,(sm.trans sm3).trans s4,zs,f,c2,hr.same (sm3.trans s4),hfr,hna⟩⟩
        . left
          have hi':i=ds.length:=by omega
          refine⟨gi.2 (by omega),?_⟩
          have hz':cR fc fe (iF fr env) ds=some zs:=by rw [hi',List.take_length] at hz;exact hz
          rw [h2] at hz'
          cases hz'
          refine q _ H2 (acc :: f) (s1.trans sm) ?_ ⟨fun b hb=>?_,fun z=>(by cases z)⟩
          . simp only [Rep]
            exact⟨acc,vs,f,rfl,hr,.inl ⟨rfl,ha⟩⟩
          . rcases List.mem_cons.mp hb with z | z
            . exact .inl (by rw [z];exact hacc0)
            . exact hfr b z
    . cases e
theorem qP {i:Nat}{x:Str}{pos' spos:Pos}{y:Str}
    (hc:X.calm=true) (hN:X.N.Nodup) (hi':X.N[i]? = some x) (hx':Loc X.env.scope x) (chk:gR X.env.scope X.N scope fr=true) (hi:QI X (.Name y px) rs iter src)
    (hnd:(eI [y] fr X.N).Nodup) (hx:scope.names.lookup y=some .local)
    (ht:∀ cl C s0 H0 ex pins,QTs (eQ X (eI [y] fr X.N) scope cl C s0 H0 ex pins) ifs fc)
    (he:∀ cl C s0 H0 ex pins,QE (eQ X (eI [y] fr X.N) scope cl C s0 H0 ex pins) false ri elt fe)
    (hrs:∀ r ∈ rs,r ∈ ro) (hri:∀ i,i + 1 ∈ ri->fr.getD i 0 ∈ ro)
    (hsw:swapsWith (.ListComp elt [⟨.Name y px,iter,ifs,0⟩] scope pos) (some (.Name x pos')) spos.line X.env=pure true:=by rfl)
    (hf:X.fn x=true \/ X.env.scope.names.lookup x=some .local:=by first | exact .inl rfl | exact .inr rfl | assumption)
    (hs:∀ x,foldedSetIterable iter X.env x=pure x:=by intro _;rfl) :
    QS X (.Assign [.Name x pos'] (.ListComp elt [⟨.Name y px,iter,ifs,0⟩] scope pos) spos) (vC i ro (bZ fr src fc fe)) :=
  .mk (sN (tgs:=[y]) (tt:=tDT X.K fc) (te:=tD X.K false ri fe) hc hN hi' hx' chk hi (fun cl C s0 H0 ex pins=>fN (i:=0) hnd rfl (.inl (lookup_relabel_local hx)) (.inr (lookup_relabel_local hx))) ht he hsw hf hs)
    fun E σ H ⟨P,env,I,q⟩=>K0 hrs hri (by
      obtain⟨F,hF⟩:=I.ex
      unfold vC at q
      split at q
      . rename_i d h1
        exact⟨env,nrm env F,d,hF.nrm.ok,h1,fun v H' fp s r c=>q _ H' (yG i I.same (by rw [xG];exact I.len) (hF.nrm.fz ro) s r (sD hF c))⟩
      . exact q.elim)
end
section
variable {prog:Program}{w:World}{A:Around}{E:Value->Shared->Prop}{s:Shared}{d:Addr}
theorem uK (hd:(d == sysModules)=false) :
    MeetsIn prog w (Builtin.«dict.__len__» ⟨[.ref d],[]⟩) (fun _ R s=>∃ es ep,VEnts s.heap d es ep /\ R (.ok (.ret (.int es.size s.toks))) { s with toks:=s.toks + 1 }) :=
  .of_wp fun A R s ⟨es,ep,⟨o,ho,hc,hdat⟩,h⟩=>by
    show wpAny _ _ (dictSize d >>= _) _ _ s
    unfold dictSize
    refine wpAny_bind (wpAny_bind (wpAny_dictEntries ho hdat (wpAny_pure ?_)))
    show wpAny _ _ (Builtin.Dict.pendingCount d >>= _) _ _ s
    refine wpAny_bind (wpAny_pendingCount_other hd ?_)
    refine wpAny_ret_mkInt ?_
    rw [Nat.add_zero];exact h
theorem Z2G {es:Array DictEntry}{ep:Nat}{Q:Value->Shared->Prop}(hd:(d == sysModules)=false) (x:VEnts s.heap d es ep) (hfit:(es.size:Int) < 2 ^ 63)
    (h:Q (.int es.size (s.toks + 1)) { s with toks:=s.toks + 1 + 1 }):wpAny (model prog w) A (call (.builtin "len") [.ref d]) Q E s:=by
  refine Calls.call_function_entry kind_len plain_len entry_len (args_len1 _) ?_
  unfold Builtin.«len»
  refine wpAny_bind (m:=oneArg "len" _) (wpAny_pure ?_)
  refine wpAny_bind (m:=callSpecial? (.ref d) (Str.ofString "__len__")) (wpAny_callSpecial?_slot (name:=Str.ofString "__len__") x.ty PySem.F.slot_dict_len
    (call_meetsIn PySem.F.slot_dict_len x.ty PySem.F.entry_dict_len (PySem.F.args_dict_len_1 _) (uK hd) ⟨es,ep,x,?_⟩))
  show wpAny _ _ _ _ _ { s with toks:=s.toks + 1 }
  refine wpAny_bind (wpAny_holding (wpAny_pure ?_))
  refine wpAny_bind (wpAny_letGo ?_)
  show wpAny _ _ (if ((es.size:Nat):Int) < 0 then _ else _) _ _ _
  rw [if_neg (by omega)]
  show wpAny _ _ (if ((es.size:Nat):Int) ≥ 2 ^ 63 then _ else _) _ _ _
  rw [if_neg (by omega)]
  exact wpAny_bind (wpAny_mkInt (wpAny_pure ⟨_,rfl,h⟩))
end
section
variable {X:Cx}{m m1:Bool}{rs rs1:List Nat}{a:Expr}{fa:En->Option D}{pos:Pos}
theorem X8:CallR X (.builtin "len") (fun xs H Q=>∃ p es ep,xs=[.ref p] /\ Rd H p (.dE es ep) /\ es.length <= 1000 /\ Q (.int es.length) H):=by
  intro pins s σ H xs us Q I r h
  obtain⟨p,es,ep,rfl,hq,hl,q⟩:=h
  obtain⟨u,rfl,rx⟩:=oT r
  cases rx
  obtain⟨hd,es',hsz,ve,_⟩:=xJ I hq
  exact Z2G hd ve (by rw [hsz];omega) ⟨.int es.length,H,I.tok _,⟨s.toks + 1,by rw [hsz]⟩,q⟩
noncomputable def wC:List D->Option D
  | [.dt ks _]=>if ks.length <= 1000 then some (.int ks.length) else none
  | _=>none
theorem Z2d {p:Pos}(hg:Gl X "len") (hm:X.mg "len" = none) (ha:QE X m1 rs1 a fa) (he:starEach [a] X.env=(false,eval a X.env) :: starEach [] X.env:=by rfl) (hpl:(backTo pos (starEach [] X.env)).any (·.1)=false:=by rfl) :
    QE X m rs (.Call (.Name "len" p) [a] [] pos) (fun env=>(aC fa aL env).bind wC) :=
  lE X8 hg hm PySem.boot_len (aD ha aJ he) (fun ds d vs H fp Q e r q=>by
    unfold wC at e
    split at e
    . split at e
      . rename_i hl
        cases e
        obtain⟨v,rfl,r1⟩:=jX r
        obtain⟨a,es,ep,ws,fp',rfl,hk,hv,ht,hr,hrd,hsub⟩:=vS r1
        subst hk
        rw [List.length_map] at hl q
        exact⟨a,es,ep,rfl,hrd,hl,q _ _ [] (Same.refl H) fS (fun b hb=>(by cases hb)) List.nodup_nil⟩
      . cases e
    . cases e) (he:=he) (hpl:=hpl)
end
end PD
namespace G
open PySem PySem.Spec PyProof.Rows L2 PD
theorem vG:∀ (n a b:Nat),a <= n->a ||| b=(a ^^^ b) + (a &&& b)
  | n,0,b,_=>by simp
  | 0,a + 1,b,h=>by omega
  | n + 1,a + 1,b,h=>by
    have ih:=vG n ((a + 1) / 2) (b / 2) (by omega)
    have o:=congrArg (· = true) (Nat.testBit_or (a + 1) b 0)
    have x:=congrArg (· = true) (Nat.testBit_xor (a + 1) b 0)
    have d:=congrArg (· = true) (Nat.testBit_and (a + 1) b 0)
    simp only [Nat.testBit_zero,Bool.or_eq_true,Bool.and_eq_true,decide_eq_true_eq] at o x d
    rw [<- Nat.or_div_two,<- Nat.xor_div_two,<- Nat.and_div_two] at ih
    generalize a + 1=A at *
    generalize A ||| b=O at *
    generalize A ^^^ b=X at *
    generalize A &&& b=N at *
    have ho:O % 2=1 ↔ A % 2=1 \/ b % 2=1:=by rw [o]
    have hd:N % 2=1 ↔ A % 2=1 /\ b % 2=1:=by rw [d]
    have hx:X % 2=1 ↔ ¬ (A % 2=1 ↔ b % 2=1):=by
      rw [x]
      by_cases h1:A % 2=1 <;> by_cases h2:b % 2=1 <;> simp [h1,h2]
    by_cases h1:A % 2=1 <;> by_cases h2:b % 2=1 <;> simp only [h1,h2,or_self,or_true,true_or,and_self,and_true,true_and,and_false,false_and,iff_self,not_true,iff_true,iff_false,or_false,false_or,not_false_iff] at ho hd hx <;> omega
theorem A2 (a:Nat):¬ (0:Int) <= Builtin.bitNot (a:Int):=by unfold Builtin.bitNot;omega
theorem Z1K (a:Int):Builtin.bitNot (Builtin.bitNot a)=a:=by unfold Builtin.bitNot;omega
theorem tW (a b:Nat):Builtin.bitAnd (a:Int) (b:Int)=((a &&& b:Nat):Int):=by
  simp [Builtin.bitAnd]
theorem nV (a b:Nat):Builtin.bitOr (a:Int) (b:Int)=((a ||| b:Nat):Int):=by
  unfold Builtin.bitOr Builtin.bitAnd
  rw [decide_eq_false (A2 a),decide_eq_false (A2 b)]
  simp only [Z1K,Int.toNat_natCast]
theorem Z1J (a b:Nat):Builtin.bitXor (a:Int) (b:Int)=((a ^^^ b:Nat):Int):=by
  unfold Builtin.bitXor
  rw [nV,tW,vG a a b (Nat.le_refl _)]
  omega
noncomputable def tabN:Nat->(Nat->Bool)->Nat
  | 0,_=>0
  | n + 1,b=>tabN n b + (if b n then 2 ^ n else 0)
theorem iQ:∀ (n:Nat) (b:Nat->Bool),tabN n b < 2 ^ n
  | 0,b=>by simp [tabN]
  | n + 1,b=>by
    have:=iQ n b
    simp only [tabN,Nat.pow_succ]
    split <;> omega
theorem cS:∀ (n:Nat) (b:Nat->Bool) (g:Nat),(tabN n b).testBit g=(decide (g < n) && b g)
  | 0,b,g=>by simp [tabN]
  | n + 1,b,g=>by
    have ih:=cS n b g
    have hlt:=iQ n b
    simp only [tabN]
    cases hb:b n with
    | true =>
      simp only [if_true]
      rw [Nat.add_comm]
      by_cases h1:g < n
      . rw [Nat.testBit_two_pow_add_gt h1,ih];simp [h1,Nat.lt_succ_of_lt h1]
      . by_cases h2:g=n
        . subst h2
          rw [Nat.testBit_two_pow_add_eq,ih];simp [hb]
        . rw [Nat.testBit_lt_two_pow]
          . simp [show ¬ g < n + 1 by omega]
          . have:2 ^ (n + 1) <= 2 ^ g:=Nat.pow_le_pow_right (by decide) (by omega)
            rw [Nat.pow_succ] at this;omega
    | false =>
      simp only [Bool.false_eq_true,if_false,Nat.add_zero]
      rw [ih]
      by_cases h2:g=n
      . subst h2;simp [hb]
      . by_cases h1:g < n
        . simp [h1,Nat.lt_succ_of_lt h1]
        . simp [h1,show ¬ g < n + 1 by omega]
theorem B6 {n:Nat}{a b:Nat->Bool}(h:∀ g,g < n->a g=b g):tabN n a=tabN n b:=by
  apply Nat.eq_of_testBit_eq
  intro g
  rw [cS,cS]
  by_cases hg:g < n
  . simp [hg,h g hg]
  . simp [hg]
theorem nL {n x:Nat}{b:Nat->Bool}(h1:x < 2 ^ n) (h:∀ g,g < n->x.testBit g=b g):x=tabN n b:=by
  apply Nat.eq_of_testBit_eq
  intro g
  rw [cS]
  by_cases hg:g < n
  . simp [hg,h g hg]
  . have:x < 2 ^ g:=Nat.lt_of_lt_of_le h1 (Nat.pow_le_pow_right (by decide) (by omega))
    rw [Nat.testBit_lt_two_pow this];simp [hg]
noncomputable def tab (n:Nat) (b:Nat->Bool):Int:=(tabN n b:Int)
theorem dD {n:Nat}{a b:Nat->Bool}(h:∀ g,g < n->a g=b g):tab n a=tab n b:=by unfold tab;rw [B6 h]
theorem K9 (n:Nat) (a b:Nat->Bool):Builtin.bitAnd (tab n a) (tab n b)=tab n (fun g=>a g && b g):=by
  unfold tab
  rw [tW]
  congr 1
  refine nL (Nat.lt_of_le_of_lt Nat.and_le_left (iQ n a)) fun g hg=>?_
  rw [Nat.testBit_and,cS,cS];simp [hg]
theorem lQ (n:Nat) (a b:Nat->Bool):Builtin.bitOr (tab n a) (tab n b)=tab n (fun g=>a g || b g):=by
  unfold tab
  rw [nV]
  congr 1
  refine nL (Nat.or_lt_two_pow (iQ n a) (iQ n b)) fun g hg=>?_
  rw [Nat.testBit_or,cS,cS];simp [hg]
theorem rM (n:Nat) (a b:Nat->Bool):Builtin.bitXor (tab n a) (tab n b)=tab n (fun g=>a g ^^ b g):=by
  unfold tab
  rw [Z1J]
  congr 1
  refine nL (Nat.xor_lt_two_pow (iQ n a) (iQ n b)) fun g hg=>?_
  rw [Nat.testBit_xor,cS,cS];simp [hg]
theorem Q3 (n:Nat):tabN n (fun _=>true)=2 ^ n - 1:=by
  symm
  refine nL (by have:=Nat.two_pow_pos n;omega) fun g hg=>?_
  rw [Nat.testBit_two_pow_sub_one];simp [hg]
theorem nK:∀ (n:Nat),tabN n (fun _=>false)=0
  | 0=>rfl
  | n + 1=>by simp [tabN,nK n]
noncomputable def aZ (n:Nat):Int:=2 ^ n - 1
theorem oW (n:Nat):tab n (fun _=>true)=aZ n:=by
  unfold tab aZ
  rw [Q3]
  have:=Nat.two_pow_pos n
  rw [Int.ofNat_sub (by omega)]
  simp
theorem K8 (n:Nat) {b:Int}(h:b=0 \/ b=1):aZ n * b=tab n (fun _=>decide (b=1)):=by
  rcases h with z | z
  . subst z
    have:(fun _:Nat=>decide ((0:Int)=1))=fun _=>false:=by funext;decide
    rw [this,Int.mul_zero];unfold tab;rw [nK];rfl
  . subst z
    have:(fun _:Nat=>decide ((1:Int)=1))=fun _=>true:=by funext;decide
    rw [this,Int.mul_one,oW]
theorem wF (n:Nat) (b:Nat->Bool):Builtin.bitXor (aZ n) (tab n b)=tab n (fun g=>!b g):=by
  rw [<- oW,rM]
  exact dD fun g _=>by simp
noncomputable def inT:Nat->List Int
  | 0=>[]
  | k + 1=>(inT k).map (fun t=>Builtin.bitOr t (t * 2 ^ (2 ^ k))) ++ [aZ (2 ^ k) * 2 ^ (2 ^ k)]
theorem gF:∀ n,(inT n).length=n
  | 0=>rfl
  | n + 1=>by simp [inT,gF n]
theorem K6 (n:Nat) (b:Nat->Bool):tab n b * 2 ^ n=tab (n + n) (fun g=>decide (n <= g) && b (g - n)):=by
  unfold tab
  have:((tabN n b:Nat):Int) * 2 ^ n=((tabN n b * 2 ^ n:Nat):Int):=by simp
  rw [this]
  congr 1
  refine nL ?_ fun g hg=>?_
  . rw [Nat.pow_add];exact Nat.mul_lt_mul_of_pos_right (iQ n b) (Nat.two_pow_pos n)
  . rw [<- Nat.shiftLeft_eq,Nat.testBit_shiftLeft,cS]
    by_cases h:n <= g
    . simp [h,show g - n < n by omega]
    . simp [h]
theorem Z03 (n m:Nat) (b:Nat->Bool):tab n b=tab (n + m) (fun g=>decide (g < n) && b g):=by
  unfold tab
  congr 1
  refine nL ?_ fun g hg=>cS n b g
  exact Nat.lt_of_lt_of_le (iQ n b) (Nat.pow_le_pow_right (by decide) (by omega))
theorem nT:∀ (n i:Nat),i < n->(inT n)[i]? = some (tab (2 ^ n) fun g=>decide (g / 2 ^ i % 2=1))
  | 0,i,h=>by omega
  | n + 1,i,h=>by
    have e2:2 ^ (n + 1)=2 ^ n + 2 ^ n:=by rw [Nat.pow_succ];omega
    simp only [inT]
    by_cases hi:i < n
    . rw [List.getElem?_append_left (by simp [gF,hi]),List.getElem?_map,nT n i hi]
      simp only [Option.map_some]
      congr 1
      rw [K6]
      rw [Z03 (2 ^ n) (2 ^ n),lQ,e2]
      refine dD fun g hg=>?_
      by_cases h1:g < 2 ^ n
      . simp [h1,show ¬ 2 ^ n <= g by omega]
      . have h2:2 ^ n <= g:=by omega
        simp only [h1,h2,decide_false,decide_true,Bool.false_and,Bool.false_or,Bool.true_and]
        have h3:2 ^ n=2 ^ i * (2 * 2 ^ (n - i - 1)):=by rw [<- Nat.pow_succ',<- Nat.pow_add];congr 1;omega
        have h4:g / 2 ^ i=(g - 2 ^ n) / 2 ^ i + 2 * 2 ^ (n - i - 1):=by
          have:g=(g - 2 ^ n) + 2 ^ i * (2 * 2 ^ (n - i - 1)):=by omega
          conv=>lhs;rw [this]
          rw [Nat.add_mul_div_left _ _ (Nat.two_pow_pos i)]
        rw [h4]
        congr 2
        omega
    . have hin:i=n:=by omega
      subst hin
      rw [List.getElem?_append_right (by simp [gF]),List.length_map,gF,Nat.sub_self]
      simp only [List.getElem?_cons_zero]
      congr 1
      rw [<- oW,K6,e2]
      refine dD fun g hg=>?_
      by_cases h1:2 ^ i <= g
      . have:g / 2 ^ i=1:=by
          rw [Nat.div_eq_iff (Nat.two_pow_pos i)];omega
        simp [h1,this]
      . have:g / 2 ^ i=0:=Nat.div_eq_of_lt (by omega)
        simp [h1,this]
theorem Z5o {x y:Int}(h:Bt x) (k:Bt y):(decide (x=1) && decide (y=1))=decide (Builtin.bitAnd x y=1):=by rcases h with z | z <;> rcases k with w | w <;> (subst z;subst w;decide)
theorem Z5O {x y:Int}(h:Bt x) (k:Bt y):(decide (x=1) || decide (y=1))=decide (Builtin.bitOr x y=1):=by rcases h with z | z <;> rcases k with w | w <;> (subst z;subst w;decide)
theorem Z5m {x y:Int}(h:Bt x) (k:Bt y):(decide (x=1) ^^ decide (y=1))=decide (Builtin.bitXor x y=1):=by rcases h with z | z <;> rcases k with w | w <;> (subst z;subst w;decide)
theorem Z5n {x:Int}(h:Bt x):(!decide (x=1))=decide (Builtin.bitXor 1 x=1):=by rcases h with z | z <;> (subst z;decide)
noncomputable def tb (n:Nat) (b:Nat->Int):Int:=tab n fun g=>decide (b g=1)
theorem lA {n:Nat}{a b:Nat->Int}(h:∀ g,g < n->a g=b g):tb n a=tb n b:=dD fun g hg=>by rw [h g hg]
theorem B5 (n:Nat) {b:Int}(h:b=0 \/ b=1):aZ n * b=tb n fun _=>1 * b:=by
  rw [K8 n h]
  exact dD fun g _=>by rw [Int.one_mul]
theorem Z3w (n:Nat) {a b:Nat->Int}(ha:∀ g,Bt (a g)) (hb:∀ g,Bt (b g)):Builtin.bitAnd (tb n a) (tb n b)=tb n fun g=>Builtin.bitAnd (a g) (b g):=by
  unfold tb;rw [K9]
  exact dD fun g _=>Z5o (ha g) (hb g)
theorem Z4u (n:Nat) {a b:Nat->Int}(ha:∀ g,Bt (a g)) (hb:∀ g,Bt (b g)):Builtin.bitOr (tb n a) (tb n b)=tb n fun g=>Builtin.bitOr (a g) (b g):=by
  unfold tb;rw [lQ]
  exact dD fun g _=>Z5O (ha g) (hb g)
theorem Z3u (n:Nat) {a b:Nat->Int}(ha:∀ g,Bt (a g)) (hb:∀ g,Bt (b g)):Builtin.bitXor (tb n a) (tb n b)=tb n fun g=>Builtin.bitXor (a g) (b g):=by
  unfold tb;rw [rM]
  exact dD fun g _=>Z5m (ha g) (hb g)
theorem Z3v (n:Nat) {a:Nat->Int}(ha:∀ g,Bt (a g)):Builtin.bitXor (aZ n) (tb n a)=tb n fun g=>Builtin.bitXor 1 (a g):=by
  unfold tb;rw [wF]
  exact dD fun g _=>Z5n (ha g)
theorem uV {n:Nat}{v:Int}{b:Nat->Int}{w:Int}{f:Flt}(h:v=tb n b) (hf:∀ w b,f=.wire w b->b=0 \/ b=1):bP v w (aZ n) f=tb n fun g=>bP (b g) w 1 f:=by
  cases f with
  | none=>exact h
  | leg _ _ _=>exact h
  | wire w' b' =>
    unfold bP
    by_cases hw:w'=w
    . simp only [hw,if_true]
      exact B5 n (hf _ _ rfl)
    . simp only [hw,if_false]
      exact h
theorem Z1P {n:Nat}{r:Row}{w:Int}{V:List Int}{B:Nat->List Int}{f:Flt}(h:∀ a ∈ r.ws,nth V a=tb n fun g=>nth (B g) a) (hb:∀ w l b,f=.leg w l b->b=0 \/ b=1) :
    ∀ j:Nat,j < r.ws.length->nth (legs r w V (aZ n) f) j=tb n fun g=>nth (legs r w (B g) 1 f) j:=by
  have base:∀ j:Nat,j < r.ws.length->nth (r.ws.map (nth V)) j=tb n fun g=>nth (r.ws.map (nth (B g))) j:=by
    intro j hj
    have e1:∀ L:List Int,nth (r.ws.map (nth L)) j=nth L (r.ws[j]):=fun L=>iR (i:=j) (by simp [hj]) rfl
    rw [e1 V,h _ (List.getElem_mem hj)]
    exact lA fun g _=>(e1 (B g)).symm
  intro j hj
  cases f with
  | none=>exact base j hj
  | wire _ _=>exact base j hj
  | leg w' l b =>
    unfold legs
    by_cases hw:w'=w
    . simp only [hw,if_true]
      by_cases hl:l.toNat=j
      . have e2:∀ (L:List Int) (x:Int),L.length=r.ws.length->nth (L.set l.toNat x) j=x:=fun L x hL=>iR (i:=j) (by rw [hl,List.getElem?_set_self (by omega)]) rfl
        rw [e2 _ _ (by simp)]
        rw [B5 n (hb _ _ _ rfl)]
        exact lA fun g _=>(e2 _ _ (by simp)).symm
      . have e3:∀ (L:List Int) (x:Int),nth (L.set l.toNat x) j=nth L j:=fun L x=>by
          unfold nth
          rw [Int.toNat_natCast,List.getD,List.getD,List.getElem?_set_ne hl]
        rw [e3,base j hj]
        exact lA fun g _=>(e3 _ _).symm
    . simp only [hw,if_false]
      exact base j hj
theorem Z1Q {n:Nat}{r:Row}{L:List Int}{M:Nat->List Int}{k:Int}(hr:RowOk k r) (h:∀ j:Nat,j < r.ws.length->nth L j=tb n fun g=>nth (M g) j) (hM:∀ g,∀ x ∈ M g,Bt x):iO r L (aZ n)=tb n fun g=>iO r (M g) 1:=by
  have bt:∀ j g,Bt (nth (M g) j):=fun j g=>lY (hM g) j
  cases r with
  | fix b=>exact B5 n hr
  | not a =>
    have h0:=h 0 (by simp [Row.ws])
    show Builtin.bitXor (aZ n) (nth L 0)=_
    rw [show nth L 0=nth L ((0:Nat):Int) from rfl,h0]
    exact Z3v n fun g=>bt _ g
  | bin k a b =>
    have h0:nth L 0=tb n fun g=>nth (M g) 0:=h 0 (by simp [Row.ws])
    have h1:nth L 1=tb n fun g=>nth (M g) 1:=h 1 (by simp [Row.ws])
    cases k with
    | and =>
      show Builtin.bitAnd (nth L 0) (nth L 1)=_
      rw [h0,h1]
      exact Z3w n (fun g=>bt _ g) fun g=>bt _ g
    | or =>
      show Builtin.bitOr (nth L 0) (nth L 1)=_
      rw [h0,h1]
      exact Z4u n (fun g=>bt _ g) fun g=>bt _ g
    | xor =>
      show Builtin.bitXor (nth L 0) (nth L 1)=_
      rw [h0,h1]
      exact Z3u n (fun g=>bt _ g) fun g=>bt _ g
noncomputable def bG (ins:Nat) (rows:List Row) (f:Flt):List Int:=iU (aZ (2 ^ ins)) f (inT ins) rows
theorem kJ (ins:Nat) (rows:List Row) (f:Flt):(bG ins rows f).length=ins + rows.length:=by
  unfold bG;rw [nJ,gF]
theorem yW {l:List Int}{i:Nat}{a:Int}(h0:0 <= a) (h1:a < i):nth (l.take i) a=nth l a:=by
  unfold nth
  rw [List.getD,List.getD,List.getElem?_take_of_lt (by omega)]
theorem yE {ins:Nat}{rows:List Row}{f:Flt}(hr:RowsOk ins rows) (hf:FltOk ins rows f):∀ (i:Nat),i < ins + rows.length->nth (bG ins rows f) i=tb (2 ^ ins) fun g=>nth (tV ins rows g f) i:=by
  intro i
  induction i using Nat.strongRecOn with
  | _ i ih =>
    intro hi
    by_cases h1:i < ins
    . have e1:(bG ins rows f)[i]? = some (bP (tab (2 ^ ins) fun g=>decide (g / 2 ^ i % 2=1)) i (aZ (2 ^ ins)) f):=rW (nT ins i h1)
      rw [iR e1 rfl]
      have e2:(tab (2 ^ ins) fun g=>decide (g / 2 ^ i % 2=1))=tb (2 ^ ins) fun g=>((g:Int) / 2 ^ i % 2):=by
        refine dD fun g _=>?_
        have e3:((g:Int) / 2 ^ i % 2)=((g / 2 ^ i % 2:Nat):Int):=by simp
        have e4:(g / 2 ^ i % 2=1) ↔ ((g:Int) / 2 ^ i % 2=1):=by rw [e3];omega
        exact decide_eq_decide.mpr e4
      rw [uV e2 hf.w]
      exact lA fun g _=>(iR (Z1H h1) rfl).symm
    . obtain⟨k,rfl⟩:∃ k,i=ins + k:=⟨i - ins,by omega⟩
      have hk:k < rows.length:=by omega
      have hr1:=List.getElem?_eq_getElem hk
      generalize rows[k]=r at hr1
      have hrow:=hr k r hr1
      have e1:=pQ (o:=aZ (2 ^ ins)) (f:=f) (ss:=inT ins) hr1
      rw [gF] at e1
      rw [show nth (bG ins rows f) ((ins + k:Nat):Int)=_ from iR e1 rfl]
      have hb:∀ g:Nat,nth (tV ins rows g f) ((ins + k:Nat):Int)=_:=fun g=>iR (Y4 (g:=g) (f:=f) hr1) rfl
      have e2:iO r (legs r ((ins + k:Nat):Int) ((iU (aZ (2 ^ ins)) f (inT ins) rows).take (ins + k)) (aZ (2 ^ ins)) f) (aZ (2 ^ ins))=tb (2 ^ ins) fun g=>iO r (legs r ((ins + k:Nat):Int) ((tV ins rows g f).take (ins + k)) 1 f) 1:=by
        refine Z1Q hrow (Z1P (fun a ha=>?_) hf.l) fun g=>N0 (fun x hx=>Z1I hr hf x (List.mem_of_mem_take hx)) hf.l
        have ha2:=hrow.ws a ha
        obtain⟨a',rfl⟩:∃ a':Nat,a=(a':Int):=⟨a.toNat,by omega⟩
        have:=ih a' (by omega) (by omega)
        rw [yW (by omega) (by omega)]
        show nth (bG ins rows f) _=_
        rw [this]
        exact lA fun g _=>(yW (by omega) (by omega)).symm
      rw [uV e2 hf.w]
      exact lA fun g _=>(hb g).symm
theorem sA:∀ (n:Nat) (b:Nat->Bool),tabN n b + tabN n (fun g=>!b g) + 1=2 ^ n
  | 0,b=>by simp [tabN]
  | n + 1,b=>by
    have ih:=sA n b
    simp only [tabN,Nat.pow_succ]
    by_cases hb:b n=true
    . simp only [hb,Bool.not_true,Bool.false_eq_true,if_true,if_false];omega
    . simp only [hb,Bool.not_false,Bool.false_eq_true,if_true,if_false];omega
theorem Z1R (n:Nat) (b:Nat->Bool):aZ n - tab n b=tab n (fun g=>!b g):=by
  have h:=sA n b
  have h2:((2 ^ n:Nat):Int)=2 ^ n:=by simp
  unfold aZ tab
  rw [<- h2]
  omega
noncomputable def IsT (n:Nat) (x:Int):Prop:=∃ b,x=tab n b
theorem Z2M {n:Nat}{x:Int}(h:IsT n x):Builtin.bitXor (aZ n) x=aZ n - x:=by obtain⟨b,rfl⟩:=h;rw [wF,Z1R]
theorem IsT.not {n:Nat}{x:Int}(h:IsT n x):IsT n (Builtin.bitXor (aZ n) x):=by obtain⟨b,rfl⟩:=h;exact⟨_,wF n b⟩
theorem IsT.and {n:Nat}{x y:Int}(h:IsT n x) (k:IsT n y):IsT n (Builtin.bitAnd x y):=by obtain⟨b,rfl⟩:=h;obtain⟨c,rfl⟩:=k;exact⟨_,K9 n b c⟩
theorem IsT.or {n:Nat}{x y:Int}(h:IsT n x) (k:IsT n y):IsT n (Builtin.bitOr x y):=by obtain⟨b,rfl⟩:=h;obtain⟨c,rfl⟩:=k;exact⟨_,lQ n b c⟩
theorem IsT.xor {n:Nat}{x y:Int}(h:IsT n x) (k:IsT n y):IsT n (Builtin.bitXor x y):=by obtain⟨b,rfl⟩:=h;obtain⟨c,rfl⟩:=k;exact⟨_,rM n b c⟩
theorem pD (n:Nat):IsT n 0:=⟨fun _=>false,by unfold tab;rw [nK];rfl⟩
theorem IsT.nonneg {n:Nat}{x:Int}(h:IsT n x):0 <= x:=by obtain⟨b,rfl⟩:=h;exact Int.natCast_nonneg _
theorem Z2N {n:Nat}{b:Int}(h:b=0 \/ b=1):IsT n (aZ n * b):=⟨_,K8 n h⟩
theorem Z2C (l:List Int) (a:Int):nth l a=nth l ((a.toNat:Nat):Int):=by unfold nth;rw [Int.toNat_natCast]
theorem iV {ins:Nat}{rows:List Row}{f:Flt}(hr:RowsOk ins rows) (hf:FltOk ins rows f) (a:Int):IsT (2 ^ ins) (nth (bG ins rows f) a):=by
  by_cases h:a.toNat < ins + rows.length
  . rw [Z2C,yE hr hf _ h];exact⟨_,rfl⟩
  . have:nth (bG ins rows f) a=0:=by
      unfold nth
      rw [List.getD,List.getElem?_eq_none (by rw [kJ];omega)]
      rfl
    rw [this];exact pD _
theorem rZ {ins:Nat}{rows:List Row}{f:Flt}{i:Nat}(h:i < ins):(bG ins rows f)[i]? = some (bP (tab (2 ^ ins) fun g=>decide (g / 2 ^ i % 2=1)) i (aZ (2 ^ ins)) f):=rW (nT ins i h)
theorem qN {ins:Nat}{rows:List Row}{f:Flt}{k:Nat}{r:Row}(h:rows[k]? = some r) :
    (bG ins rows f)[ins + k]? = some (bP (iO r (legs r ((ins + k:Nat):Int) ((bG ins rows f).take (ins + k)) (aZ (2 ^ ins)) f) (aZ (2 ^ ins))) ((ins + k:Nat):Int) (aZ (2 ^ ins)) f):=by
  have:=pQ (o:=aZ (2 ^ ins)) (f:=f) (ss:=inT ins) h
  rw [gF] at this
  exact this
noncomputable def qA (r:Row) (w l:Int) (vs:List Int) (o:Int) (f:Flt):Int:=match f with
  | .leg w' l' b=>if w'=w /\ l'=l then o * b else nth vs (nth r.ws l)
  | _=>nth vs (nth r.ws l)
theorem pZ {r:Row}{w l o:Int}{vs:List Int}{f:Flt}(hl:l=0 /\ 0 < r.ws.length \/ l=1 /\ 1 < r.ws.length) (hf:∀ w' l' b,f=.leg w' l' b->w'=w->0 <= l' /\ l' < r.ws.length):nth (legs r w vs o f) l=qA r w l vs o f:=by
  have hm:∀ j:Nat,j < r.ws.length->(r.ws.map (nth vs))[j]? = some (nth vs (nth r.ws j)):=fun j hj=>by
    rw [List.getElem?_map,List.getElem?_eq_getElem hj]
    simp [nth,List.getD,hj]
  have hbase:nth (r.ws.map (nth vs)) l=nth vs (nth r.ws l):=by
    rcases hl with ⟨rfl,h⟩ | ⟨rfl,h⟩
    . exact iR (hm 0 h) rfl
    . exact iR (hm 1 h) rfl
  cases f with
  | none=>exact hbase
  | wire _ _=>exact hbase
  | leg w' l' b =>
    unfold legs qA
    by_cases h:w'=w
    . obtain⟨l0,l1⟩:=hf w' l' b rfl h
      simp only [h,if_true,true_and]
      by_cases h2:l'=l
      . subst h2
        simp only [if_true]
        refine iR (i:=l'.toNat) ?_ (by omega)
        rw [List.getElem?_set_self (by rw [List.length_map];omega)]
      . simp only [h2,if_false]
        have hne:l'.toNat ≠ l.toNat:=by omega
        rw [<- hbase]
        unfold nth
        rw [List.getD,List.getD,List.getElem?_set_ne hne]
    . simp only [h,if_false,false_and]
      exact hbase
noncomputable def kdT (k:Kd) (x y:Int):Int:=match k with | .and=>Builtin.bitAnd x y | .or=>Builtin.bitOr x y | .xor=>Builtin.bitXor x y
theorem Z0Y {n:Nat}{r:Row}{w l:Int}{vs:List Int}{f:Flt}(hv:∀ a,IsT n (nth vs a)) (hb:∀ w l b,f=.leg w l b->b=0 \/ b=1):IsT n (qA r w l vs (aZ n) f):=by
  unfold qA
  split
  . split
    . exact Z2N (hb _ _ _ rfl)
    . exact hv _
  . exact hv _
noncomputable def mK (A B outs:List Int):Int:=outs.foldl (fun acc a=>Builtin.bitOr acc (Builtin.bitXor (nth A a) (nth B a))) 0
theorem uU {n:Nat}{A B:List Int}(hA:∀ a,IsT n (nth A a)) (hB:∀ a,IsT n (nth B a)):∀ (outs:List Int) (x:Int),IsT n x->IsT n (outs.foldl (fun acc a=>Builtin.bitOr acc (Builtin.bitXor (nth A a) (nth B a))) x)
  | [],x,h=>h
  | a :: outs,x,h=>by rw [List.foldl_cons];exact uU hA hB outs _ (h.or ((hA a).xor (hB a)))
theorem Q1 {n:Nat}{A B:List Int}(hA:∀ a,IsT n (nth A a)) (hB:∀ a,IsT n (nth B a)) (outs:List Int):IsT n (mK A B outs):=uU hA hB outs 0 (pD n)
theorem rY {A B outs:List Int}{i:Nat}{a:Int}(h:outs[i]? = some a):mK A B (outs.take (i + 1))=Builtin.bitOr (mK A B (outs.take i)) (Builtin.bitXor (nth A a) (nth B a)):=by
  unfold mK
  rw [bS h,List.foldl_append]
  rfl
noncomputable def bD (ins:Nat) (rows:List Row) (w:Int):List Int:=if w < (ins:Int) then [] else match rows[(w - (ins:Int)).toNat]? with | some r=>r.ws | none=>[]
theorem lI {ins:Nat}{rows:List Row}{w:Int}(h:w < (ins:Int)):bD ins rows w=[]:=if_pos h
theorem mE {ins:Nat}{rows:List Row}{w:Int}{r:Row}(h:(ins:Int) <= w) (e:rows[(w - (ins:Int)).toNat]? = some r):bD ins rows w=r.ws:=by
  unfold bD;rw [if_neg (by omega),e]
theorem jU {ins:Nat}{rows:List Row}(hr:RowsOk ins rows) {w b:Int}(hb:b ∈ bD ins rows w):0 <= b /\ b < w:=by
  by_cases h:w < (ins:Int)
  . rw [lI h] at hb;cases hb
  . cases e:rows[(w - (ins:Int)).toNat]? with
    | none=>unfold bD at hb;rw [if_neg h,e] at hb;cases hb
    | some r =>
      rw [mE (by omega) e] at hb
      have:=(hr _ r e).ws b hb
      omega
theorem iM {ins:Nat}{rows:List Row}{w:Int}:(bD ins rows w).length <= 2:=by
  unfold bD
  split
  . simp
  . split
    . rename_i r _
      cases r <;> simp [Row.ws]
    . simp
noncomputable def mV (ks:List Int) (k:Int):List Int:=if k ∈ ks then ks else ks ++ [k]
theorem Z0U {ks:List Int}{k a:Int}:a ∈ mV ks k ↔ a ∈ ks \/ a=k:=by
  unfold mV
  split
  . rename_i h
    exact⟨.inl,fun z=>z.elim id fun z=>z ▸ h⟩
  . simp
theorem D7 {ks:List Int}{k:Int}(h:ks.Nodup) (hk:k ∉ ks):(ks ++ [k]).Nodup:=by
  refine List.nodup_append.mpr ⟨h,by simp,fun a ha b hb z=>?_⟩
  have:b=k:=by simpa using hb
  subst this;subst z
  exact hk ha
theorem D8 {ks:List Int}{k:Int}(h:ks.Nodup):(mV ks k).Nodup:=by
  unfold mV
  split
  . exact h
  . rename_i hk;exact D7 h hk
noncomputable def fG (ks xs:List Int):List Int:=xs.foldl mV ks
theorem mem_addAll:∀ {xs ks:List Int}{a:Int},a ∈ fG ks xs ↔ a ∈ ks \/ a ∈ xs
  | [],ks,a=>by simp [fG]
  | x :: xs,ks,a=>by
    have ih:=mem_addAll (xs:=xs) (ks:=mV ks x) (a:=a)
    unfold fG at ih ⊢
    rw [List.foldl_cons,ih,Z0U,List.mem_cons,or_assoc]
theorem mB:∀ {xs ks:List Int},ks.Nodup->(fG ks xs).Nodup
  | [],ks,h=>h
  | x :: xs,ks,h=>by
    have ih:=mB (xs:=xs) (ks:=mV ks x) (D8 h)
    exact ih
theorem rD {xs ks:List Int}{i:Nat}{a:Int}(h:xs[i]? = some a):fG ks (xs.take (i + 1))=mV (fG ks (xs.take i)) a:=by
  unfold fG
  rw [bS h,List.foldl_append]
  rfl
theorem mW:∀ (N:Nat) (l:List Int),l.Nodup->(∀ a ∈ l,0 <= a /\ a < (N:Int))->l.length <= N
  | 0,[],_,_=>Nat.le_refl _
  | 0,a :: l,_,h=>by have:=h a List.mem_cons_self;omega
  | N + 1,l,nd,h=>by
    have ih:=mW N (l.erase (N:Int)) (nd.erase _) (fun a ha=>by
      have h1:=(nd.mem_erase_iff).mp ha
      have:=h a h1.2
      have h2:a ≠ (N:Int):=h1.1
      omega)
    rw [List.length_erase] at ih
    split at ih <;> omega
structure NeedL (ins:Nat) (rows:List Row) (outs L:List Int):Prop where
  nd:L.Nodup
  out:∀ a ∈ outs,a ∈ L
  cl:∀ a ∈ L,∀ b ∈ bD ins rows a,b ∈ L
  least:∀ S:Int->Prop,(∀ a ∈ outs,S a)->(∀ a,S a->∀ b ∈ bD ins rows a,S b)->∀ a ∈ L,S a
theorem NeedL.bound {ins:Nat}{rows:List Row}{outs L:List Int}(h:NeedL ins rows outs L) (hr:RowsOk ins rows) (ho:∀ a ∈ outs,0 <= a /\ a < ((ins + rows.length:Nat):Int)):∀ a ∈ L,0 <= a /\ a < ((ins + rows.length:Nat):Int) :=
  h.least _ ho fun a ha b hb=>by have:=jU hr hb;omega
theorem NeedL.len {ins:Nat}{rows:List Row}{outs L:List Int}(h:NeedL ins rows outs L) (hr:RowsOk ins rows) (ho:∀ a ∈ outs,0 <= a /\ a < ((ins + rows.length:Nat):Int)):L.length <= ins + rows.length:=mW _ _ h.nd (h.bound hr ho)
noncomputable def gI (ins:Nat) (rows:List Row) (outs:List Int):Nat->List Int
  | 0=>fG [] outs
  | j + 1=>if (((ins + rows.length:Nat):Int) - 1 - (j:Int)) ∈ gI ins rows outs j then fG (gI ins rows outs j) (bD ins rows (((ins + rows.length:Nat):Int) - 1 - (j:Int))) else gI ins rows outs j
structure Z5s (ins:Nat) (rows:List Row) (outs:List Int) (j:Nat) (L:List Int):Prop where
  nd:L.Nodup
  out:∀ a ∈ outs,a ∈ L
  cl:∀ a ∈ L,((ins + rows.length:Nat):Int) - (j:Int) <= a->∀ b ∈ bD ins rows a,b ∈ L
  least:∀ S:Int->Prop,(∀ a ∈ outs,S a)->(∀ a,S a->∀ b ∈ bD ins rows a,S b)->∀ a ∈ L,S a
theorem M9 {ins:Nat}{rows:List Row}{outs:List Int}(hr:RowsOk ins rows) (ho:∀ a ∈ outs,0 <= a /\ a < ((ins + rows.length:Nat):Int)):∀ j,Z5s ins rows outs j (gI ins rows outs j)
  | 0=>by
    refine⟨mB List.nodup_nil,fun a ha=>mem_addAll.mpr (.inr ha),fun a ha h=>?_,fun S h1 _ a ha=>?_⟩
    . have:=ho a ((mem_addAll.mp ha).elim (fun z=>(by cases z)) id)
      omega
    . exact h1 a ((mem_addAll.mp ha).elim (fun z=>(by cases z)) id)
  | j + 1=>by
    have ih:=M9 hr ho j
    unfold gI
    by_cases hw:(((ins + rows.length:Nat):Int) - 1 - (j:Int)) ∈ gI ins rows outs j
    . rw [if_pos hw]
      generalize hW:((ins + rows.length:Nat):Int) - 1 - (j:Int)=W at *
      refine⟨mB ih.nd,fun a ha=>mem_addAll.mpr (.inl (ih.out a ha)),fun a ha h b hb=>?_,fun S h1 h2 a ha=>?_⟩
      . rcases mem_addAll.mp ha with z | z
        . by_cases haw:a=W
          . subst haw;exact mem_addAll.mpr (.inr hb)
          . exact mem_addAll.mpr (.inl (ih.cl a z (by omega) b hb))
        . have:=jU hr z
          omega
      . rcases mem_addAll.mp ha with z | z
        . exact ih.least S h1 h2 a z
        . exact h2 W (ih.least S h1 h2 W hw) a z
    . rw [if_neg hw]
      refine⟨ih.nd,ih.out,fun a ha h b hb=>?_,ih.least⟩
      by_cases haw:a=((ins + rows.length:Nat):Int) - 1 - (j:Int)
      . rw [haw] at ha;exact absurd ha hw
      . exact ih.cl a ha (by omega) b hb
theorem mX {ins:Nat}{rows:List Row}{outs:List Int}(hr:RowsOk ins rows) (ho:∀ a ∈ outs,0 <= a /\ a < ((ins + rows.length:Nat):Int)):NeedL ins rows outs (gI ins rows outs rows.length):=by
  have h:=M9 hr ho rows.length
  refine⟨h.nd,h.out,fun a ha b hb=>?_,h.least⟩
  by_cases hi:a < (ins:Int)
  . rw [lI hi] at hb;cases hb
  . exact h.cl a ha (by omega) b hb
noncomputable def mM (ins:Nat) (rows:List Row) (outs:List Int):List Int:=uB (gI ins rows outs rows.length)
theorem mem_needV {ins:Nat}{rows:List Row}{outs:List Int}{a:Int}:a ∈ mM ins rows outs ↔ a ∈ gI ins rows outs rows.length:=(jP _).mem_iff
theorem qR {ins:Nat}{rows:List Row}{outs:List Int}(hr:RowsOk ins rows) (ho:∀ a ∈ outs,0 <= a /\ a < ((ins + rows.length:Nat):Int)):∀ a ∈ mM ins rows outs,0 <= a /\ a < ((ins + rows.length:Nat):Int) :=
  fun a ha=>(mX hr ho).bound hr ho a (mem_needV.mp ha)
theorem vI {ins:Nat}{rows:List Row}{outs:List Int}(hr:RowsOk ins rows) (ho:∀ a ∈ outs,0 <= a /\ a < ((ins + rows.length:Nat):Int)):(mM ins rows outs).length <= ins + rows.length:=by
  have:=(jP (gI ins rows outs rows.length)).length_eq
  unfold mM
  rw [this]
  exact (mX hr ho).len hr ho
noncomputable def cO (ins:Nat) (rows:List Row) (w:Int):List Int:=if w < (ins:Int) then [0,1] else match rows[(w - (ins:Int)).toNat]? with | some (.fix b)=>[1 - b] | _=>[0,1]
theorem gU {ins:Nat}{rows:List Row}{w:Int}:(cO ins rows w).length <= 2:=by
  unfold cO
  split
  . simp
  . split <;> simp
theorem vX {ins:Nat}{rows:List Row}(hr:RowsOk ins rows) {w b:Int}(hb:b ∈ cO ins rows w):b=0 \/ b=1:=by
  unfold cO at hb
  split at hb
  . simpa using hb
  . split at hb
    . rename_i c e
      have:=hr _ _ e
      have h2:b=1 - c:=by simpa using hb
      rcases (show c=0 \/ c=1 from this) with z | z <;> omega
    . simpa using hb
noncomputable def bL (ins:Nat) (rows:List Row) (w:Int) (k:Nat):List Int->List Flt
  | []=>[]
  | a :: r=>(cO ins rows a).map (fun b=>Flt.leg w (k:Int) b) ++ bL ins rows w (k + 1) r
noncomputable def bR (ins:Nat) (rows:List Row) (w:Int):List Flt:=(cO ins rows w).map (fun b=>Flt.wire w b) ++ bL ins rows w 0 (bD ins rows w)
noncomputable def cF (ins:Nat) (rows:List Row) (outs:List Int):List Flt:=(mM ins rows outs).flatMap (bR ins rows)
theorem mZ {ins:Nat}{rows:List Row}{w:Int}:∀ (l:List Int) (k:Nat) (a:Int),bL ins rows w k (l ++ [a])=bL ins rows w k l ++ (cO ins rows a).map (fun b=>Flt.leg w ((k + l.length:Nat):Int) b)
  | [],k,a=>by simp [bL]
  | x :: l,k,a=>by
    simp only [List.cons_append,bL]
    rw [mZ l (k + 1) a,List.append_assoc,List.length_cons,show k + 1 + l.length=k + (l.length + 1) by omega]
theorem iS {ins:Nat}{rows:List Row}{w:Int}:∀ (l:List Int) (k:Nat),(bL ins rows w k l).length <= 2 * l.length
  | [],k=>by simp [bL]
  | x :: l,k=>by
    have h1:=iS (ins:=ins) (rows:=rows) (w:=w) l (k + 1)
    have h2:=gU (ins:=ins) (rows:=rows) (w:=x)
    simp only [bL,List.length_append,List.length_map,List.length_cons]
    omega
theorem rV {ins:Nat}{rows:List Row}{w:Int}:(bR ins rows w).length <= 6:=by
  have h1:=iS (ins:=ins) (rows:=rows) (w:=w) (bD ins rows w) 0
  have h2:=gU (ins:=ins) (rows:=rows) (w:=w)
  have h3:=iM (ins:=ins) (rows:=rows) (w:=w)
  unfold bR
  rw [List.length_append,List.length_map]
  omega
theorem pI {ins:Nat}{rows:List Row}:∀ (l:List Int),(l.flatMap (bR ins rows)).length <= 6 * l.length
  | []=>by simp
  | a :: l=>by
    have h1:=pI (ins:=ins) (rows:=rows) l
    have h2:=rV (ins:=ins) (rows:=rows) (w:=a)
    rw [List.flatMap_cons,List.length_append,List.length_cons]
    omega
theorem kO {ins:Nat}{rows:List Row}{outs:List Int}(hr:RowsOk ins rows) (ho:∀ a ∈ outs,0 <= a /\ a < ((ins + rows.length:Nat):Int)):(cF ins rows outs).length <= 6 * (ins + rows.length):=by
  have h1:=pI (ins:=ins) (rows:=rows) (mM ins rows outs)
  have h2:=vI hr ho
  unfold cF
  omega
theorem gM {ins:Nat}{rows:List Row}{w:Int}{f:Flt}:∀ {l:List Int}{k:Nat},f ∈ bL ins rows w k l->∃ j a b,l[j]? = some a /\ b ∈ cO ins rows a /\ f=.leg w ((k + j:Nat):Int) b
  | [],k,h=>by cases h
  | x :: l,k,h=>by
    simp only [bL] at h
    rcases List.mem_append.mp h with z | z
    . obtain⟨b,hb,rfl⟩:=List.mem_map.mp z
      exact⟨0,x,b,rfl,hb,rfl⟩
    . obtain⟨j,a,b,h1,h2,h3⟩:=gM z
      exact⟨j + 1,a,b,by simpa using h1,h2,by rw [h3];congr 2;omega⟩
theorem mI {ins:Nat}{rows:List Row}{outs:List Int}(hr:RowsOk ins rows):∀ f ∈ cF ins rows outs,FltOk ins rows f /\ f ≠ .none:=by
  intro f hf
  obtain⟨w,_,hw⟩:=List.mem_flatMap.mp hf
  unfold bR at hw
  rcases List.mem_append.mp hw with z | z
  . obtain⟨b,hb,rfl⟩:=List.mem_map.mp z
    have h1:=vX hr hb
    exact⟨⟨fun w b e=>(by cases e;exact h1),fun w l b e=>(by cases e),fun w l b k r e=>(by cases e)⟩,fun z=>(by cases z)⟩
  . obtain⟨j,a,b,h1,h2,rfl⟩:=gM z
    have h3:=vX hr h2
    refine⟨⟨fun w b e=>(by cases e),fun w l b e=>(by cases e;exact h3),fun w' l' b' k r e er ew=>?_⟩,fun z=>(by cases z)⟩
    cases e
    have hl:bD ins rows w=r.ws:=mE (by omega) (by rw [ew,show (((ins + k:Nat):Int) - (ins:Int)).toNat=k by omega];exact er)
    rw [hl] at h1
    have:=(List.getElem?_eq_some_iff.mp h1).1
    omega
noncomputable def dKT (ks:List Int):D:=.dk (ks.map Sum.inl) (ks.map fun _=>.bl true)
theorem inl_mem {ks:List Int}{k:Int}:(Sum.inl k:Key) ∈ ks.map Sum.inl ↔ k ∈ ks:=by
  constructor
  . intro h
    obtain⟨a,ha,e⟩:=List.mem_map.mp h
    cases e;exact ha
  . intro h;exact List.mem_map.mpr ⟨k,h,rfl⟩
theorem zA {ks:List Int}{k:Int}:wX (Sum.inl k:Key) (ks.map Sum.inl)=decide (k ∈ ks):=by
  by_cases h:k ∈ ks
  . rw [memK_iff.mpr (inl_mem.mpr h),decide_eq_true h]
  . rw [decide_eq_false h,Bool.eq_false_iff]
    exact fun z=>h (inl_mem.mp (memK_iff.mp z))
theorem Z0x {ks:List Int}{k:Int}:C6 (ks.map Sum.inl) (Sum.inl k:Key)=(mV ks k).map Sum.inl:=by
  unfold C6 mV
  by_cases h:k ∈ ks
  . rw [if_pos (inl_mem.mpr h),if_pos h]
  . rw [if_neg (fun z=>h (inl_mem.mp z)),if_neg h,List.map_append];rfl
theorem oR {k:Int}:∀ (ks:List Int),List.zipWith (fun (k':Key) (y:D)=>if k'=(Sum.inl k:Key) then D.bl true else y) (ks.map Sum.inl) (ks.map fun _=>D.bl true)=ks.map fun _=>D.bl true
  | []=>rfl
  | a :: ks=>by simp only [List.map_cons,List.zipWith_cons_cons,oR ks];split <;> rfl
theorem T2 {ks:List Int}{k:Int}:sL (ks.map Sum.inl) (ks.map fun _=>D.bl true) (Sum.inl k:Key) (.bl true)=(mV ks k).map fun _=>D.bl true:=by
  unfold sL mV
  by_cases h:k ∈ ks
  . rw [if_pos (inl_mem.mpr h),if_pos h];exact oR ks
  . rw [if_neg (fun z=>h (inl_mem.mp z)),if_neg h,List.map_append];rfl
theorem J4 (ks:List Int):flats (ks.map fun _=>D.bl true)=true:=lL fun d hd=>by
  obtain⟨_,_,rfl⟩:=List.mem_map.mp hd;rfl
theorem sH {i:Nat}{fk fv:En->Option D}{env:En}{ks:List Int}{k:Int}(hv:fv env=some (.bl true)) (hi:env[i]? = some (some (true,dKT ks))) (hk:fk env=some (.int k)) (hl:ks.length < 1000) :
    sI i fk fv env=.next (env.set i (some (true,dKT (mV ks k)))):=by
  unfold sI dKT at *
  rw [hv,hi,hk]
  simp only [keyOf,J4,PD.flat,List.length_map,hl,and_self,if_true,Z0x,T2]
theorem zF {k:Int}:∀ (ks:List Int),inD (.int k) (ks.map D.int)=some (decide (k ∈ ks))
  | []=>rfl
  | a :: ks=>by
    simp only [List.map_cons,inD,eqN_int,zF ks]
    by_cases h:a=k
    . subst h;simp
    . have h':¬ k=a:=fun z=>h z.symm
      simp [h,h']
theorem zE {k:Int}{ks:List Int}:inF (.int k) (LI ks)=some (decide (k ∈ ks)):=zF ks
theorem yM {rs:List Nat}{src:En->Option (List D)}{t:D->En->Option En}{g:En->Res}{env:En}{ds:List D}(hs:src env=some ds) (I:Nat->En->Prop) (h0:I 0 (fz rs env))
    (st:∀ i d env,ds[i]? = some d->I i env->∃ env1 env2,t d env=some env1 /\ g env1=.next env2 /\ I (i + 1) env2):∃ env',dR rs src t g env=.next env' /\ I ds.length env':=by
  obtain⟨env',h1,h2⟩:=W6 I (fun i d e hd hI=>let ⟨e1,e2,a,b,c⟩:=st i d e hd hI;⟨e1,e2,a,.inl b,c⟩) h0
  exact⟨env',R9 hs h1,h2⟩
theorem oQ:∀ {xs ks:List Int},(fG ks xs).length <= ks.length + xs.length
  | [],ks=>by simp [fG]
  | x :: xs,ks=>by
    have ih:=oQ (xs:=xs) (ks:=mV ks x)
    have h:(mV ks x).length <= ks.length + 1:=by unfold mV;split <;> simp
    have e:fG ks (x :: xs)=fG (mV ks x) xs:=rfl
    rw [e,List.length_cons];omega
theorem vJ {ins:Nat}{rows:List Row}{outs:List Int}(hr:RowsOk ins rows) (ho:∀ a ∈ outs,0 <= a /\ a < ((ins + rows.length:Nat):Int)) (j:Nat):(gI ins rows outs j).length <= ins + rows.length :=
  mW _ _ (M9 hr ho j).nd ((M9 hr ho j).least _ ho fun a ha b hb=>by have:=jU hr hb;omega)
theorem W7 {ins:Nat}{rows:List Row}{l:List Int}{i:Nat}{w:Int}(h:l[i]? = some w):(l.take (i + 1)).flatMap (bR ins rows)=(l.take i).flatMap (bR ins rows) ++ bR ins rows w:=by
  rw [bS h,List.flatMap_append];simp
theorem mY {ins:Nat}{rows:List Row}{w:Int}{l:List Int}{i:Nat}{a:Int}(h:l[i]? = some a):bL ins rows w 0 (l.take (i + 1))=bL ins rows w 0 (l.take i) ++ (cO ins rows a).map (fun b=>Flt.leg w (i:Int) b):=by
  have hi:i < l.length:=(List.getElem?_eq_some_iff.mp h).1
  rw [bS h,mZ,List.length_take,Nat.zero_add,Nat.min_eq_left (by omega)]
theorem nG {rows:List Row}{k:Nat}{r:Row}(h:rows[k]? = some r) {a:Int}(e:a=(k:Int)):atI (rows.map Row.d) a=some r.d:=by
  subst e
  exact gH (by simp [h])
theorem oO {i:Nat}{r:List Itm}{env:En}{d:D}{ds:List D}(h:env[i]? = some (some (true,d))) (hr:iP r env=some ds):iP (.inl i :: r) env=some (d :: ds):=by unfold iP;rw [h,hr]
theorem J7 {f:En->Option D}{r:List Itm}{env:En}{d:D}{ds:List D}(h:f env=some d) (hr:iP r env=some ds):iP (.inr f :: r) env=some (d :: ds):=by unfold iP;rw [h,hr]
theorem Z0g {is:List Itm}{env:En}{ds:List D}(h:iP is env=some ds) (hl:ds.length <= 1000):yK is env=.ret (.tup ds):=by unfold yK;rw [h];simp only [hl,if_true]
noncomputable def oE (f:Flt) (w:Int):Bool:=match f with | .wire w' _=>decide (w'=w) | _=>false
noncomputable def bJ (ins:Nat) (rows:List Row) (outs:List Int):D:=.tup [.int ins,.lst (rows.map Row.d),LI outs,LI (inT ins)]
theorem Z5G {a b:Int}{n:Nat}(h:(b - a).toNat=n) (h0:0 <= a) (h1:a <= 1000) (h2:0 <= b) (h3:b <= 1000):A5 [.int a,.int b]=some ((List.range n).map fun (k:Nat)=>.int (a + (k:Int))):=by
  simp only [A5]
  rw [if_pos ⟨by omega,by omega,by omega,by omega⟩,h]
theorem K2 {i:Int}{j:Int}(h0:0 < j) (h1:j < 65536):eR i j:=by
  refine⟨h0,?_⟩
  have:j.natAbs.log2 <= j.natAbs:=Nat.log2_le_self _
  by_cases hz:j.natAbs=0
  . rw [hz];decide
  . have h2:j.natAbs < 2 ^ 16:=by omega
    have:=(Nat.log2_lt hz).mpr h2
    omega
theorem Z2B {l:List Int}{a:Int}(h:(l.length:Int) <= a):nth l a=0:=by
  unfold nth
  rw [List.getD,List.getElem?_eq_none (by omega)]
  rfl
theorem Z2A {l:List Int}{j:Nat}{x:Int}(P:Int->Prop) (h:∀ a ∈ l,P a) (hx:P x):∀ a ∈ l.set j x,P a:=fun a ha=>(List.mem_or_eq_of_mem_set ha).elim (h a) fun z=>z ▸ hx
noncomputable def fR (ins:Nat) (rows:List Row) (outs:List Int):Nat->List Int
  | 0=>outs
  | j + 1=>if (((ins + rows.length:Nat):Int) - 1 - (j:Int)) ∈ fR ins rows outs j then fR ins rows outs j ++ bD ins rows (((ins + rows.length:Nat):Int) - 1 - (j:Int)) else fR ins rows outs j
structure Z5p (ins:Nat) (rows:List Row) (outs:List Int) (j:Nat) (L:List Int):Prop where
  out:∀ a ∈ outs,a ∈ L
  cl:∀ a ∈ L,((ins + rows.length:Nat):Int) - (j:Int) <= a->∀ b ∈ bD ins rows a,b ∈ L
  least:∀ S:Int->Prop,(∀ a ∈ outs,S a)->(∀ a,S a->∀ b ∈ bD ins rows a,S b)->∀ a ∈ L,S a
theorem Z3c {ins:Nat}{rows:List Row}{outs:List Int}(hr:RowsOk ins rows) (ho:∀ a ∈ outs,0 <= a /\ a < ((ins + rows.length:Nat):Int)):∀ j,Z5p ins rows outs j (fR ins rows outs j)
  | 0=>by
    refine⟨fun a ha=>ha,fun a ha h=>?_,fun S h1 _ a ha=>h1 a ha⟩
    have:=ho a ha
    omega
  | j + 1=>by
    have ih:=Z3c hr ho j
    unfold fR
    by_cases hw:(((ins + rows.length:Nat):Int) - 1 - (j:Int)) ∈ fR ins rows outs j
    . rw [if_pos hw]
      generalize hW:((ins + rows.length:Nat):Int) - 1 - (j:Int)=W at *
      refine⟨fun a ha=>List.mem_append_left _ (ih.out a ha),fun a ha h b hb=>?_,fun S h1 h2 a ha=>?_⟩
      . rcases List.mem_append.mp ha with z | z
        . by_cases haw:a=W
          . subst haw;exact List.mem_append_right _ hb
          . exact List.mem_append_left _ (ih.cl a z (by omega) b hb)
        . have:=jU hr z
          omega
      . rcases List.mem_append.mp ha with z | z
        . exact ih.least S h1 h2 a z
        . exact h2 W (ih.least S h1 h2 W hw) a z
    . rw [if_neg hw]
      refine⟨ih.out,fun a ha h b hb=>?_,ih.least⟩
      by_cases haw:a=((ins + rows.length:Nat):Int) - 1 - (j:Int)
      . rw [haw] at ha;exact absurd ha hw
      . exact ih.cl a ha (by omega) b hb
theorem pP {ins:Nat}{rows:List Row}{outs:List Int}:∀ j,(fR ins rows outs j).length <= outs.length + 2 * j
  | 0=>by simp [fR]
  | j + 1=>by
    have ih:=pP (ins:=ins) (rows:=rows) (outs:=outs) j
    have hl:=iM (ins:=ins) (rows:=rows) (w:=((ins + rows.length:Nat):Int) - 1 - (j:Int))
    unfold fR
    split
    . rw [List.length_append];omega
    . omega
theorem P1 {ins:Nat}{rows:List Row}{outs:List Int}(hr:RowsOk ins rows) (ho:∀ a ∈ outs,0 <= a /\ a < ((ins + rows.length:Nat):Int)) {a:Int}:a ∈ fR ins rows outs (ins + rows.length) ↔ a ∈ mM ins rows outs:=by
  have h:=Z3c hr ho (ins + rows.length)
  have k:=mX hr ho
  rw [mem_needV]
  constructor
  . exact h.least _ k.out k.cl a
  . refine k.least _ h.out (fun c hc b hb=>?_) a
    by_cases hi:c < (ins:Int)
    . rw [lI hi] at hb;cases hb
    . exact h.cl c hc (by omega) b hb
noncomputable def gS (n:Nat):List Int:=(List.range n).map fun (k:Nat)=>(k:Int)
theorem rangeI_mem {n:Nat}{a:Int}:a ∈ gS n ↔ 0 <= a /\ a < (n:Int):=by
  unfold gS
  constructor
  . intro h
    obtain⟨k,hk,rfl⟩:=List.mem_map.mp h
    have:=List.mem_range.mp hk
    omega
  . intro ⟨h1,h2⟩
    exact List.mem_map.mpr ⟨a.toNat,List.mem_range.mpr (by omega),by omega⟩
theorem uD (n:Nat):(gS n).Pairwise (· < ·):=by
  unfold gS
  rw [List.pairwise_map]
  refine List.Pairwise.imp (fun h=>?_) List.pairwise_lt_range
  omega
theorem D9 {ins:Nat}{rows:List Row}{outs:List Int}(hr:RowsOk ins rows) (ho:∀ a ∈ outs,0 <= a /\ a < ((ins + rows.length:Nat):Int)) :
    (gS (ins + rows.length)).filter (fun a=>decide (a ∈ fR ins rows outs (ins + rows.length)))=mM ins rows outs:=by
  have s1:((gS (ins + rows.length)).filter (fun a=>decide (a ∈ fR ins rows outs (ins + rows.length)))).Pairwise (· < ·):=(uD _).filter _
  have n1:((gS (ins + rows.length)).filter (fun a=>decide (a ∈ fR ins rows outs (ins + rows.length)))).Nodup:=s1.imp fun h=>by omega
  have n2:(mM ins rows outs).Nodup:=(jP _).nodup_iff.mpr (mX hr ho).nd
  refine kA ((List.perm_ext_iff_of_nodup n1 n2).mpr fun a=>?_) (s1.imp fun h=>by omega) (mS _)
  rw [List.mem_filter,decide_eq_true_eq,P1 hr ho,rangeI_mem]
  exact⟨fun h=>h.2,fun h=>⟨qR hr ho a h,h⟩⟩
theorem oV {n:Nat}{b:Nat->Bool}:tab n b=0 ↔ ∀ g,g < n->b g=false:=by
  constructor
  . intro h g hg
    have h1:=cS n b g
    have h2:tabN n b=0:=by unfold tab at h;omega
    rw [h2] at h1
    simpa [hg] using h1.symm
  . intro h
    rw [show tab n b=tab n (fun _=>false) from dD fun g hg=>h g hg]
    unfold tab;rw [nK];rfl
theorem K7 {n:Nat}{a b:Nat->Bool}:tab n a=tab n b ↔ ∀ g,g < n->a g=b g:=by
  constructor
  . intro h g hg
    have h1:=cS n a g
    have h2:=cS n b g
    have h3:tabN n a=tabN n b:=by unfold tab at h;omega
    rw [h3,h2] at h1
    simpa [hg] using h1.symm
  . exact dD
theorem Z2u {n:Nat}{x y:Int}(hx:IsT n x) (hy:IsT n y):Builtin.bitOr x y=0 ↔ x=0 /\ y=0:=by
  obtain⟨a,rfl⟩:=hx
  obtain⟨b,rfl⟩:=hy
  rw [lQ,oV,oV,oV]
  constructor
  . intro h
    exact⟨fun g hg=>by have:=h g hg;simp at this;exact this.1,fun g hg=>by have:=h g hg;simp at this;exact this.2⟩
  . intro ⟨h1,h2⟩ g hg
    simp [h1 g hg,h2 g hg]
theorem Z0 {n:Nat}{x y:Int}(hx:IsT n x) (hy:IsT n y):Builtin.bitXor x y=0 ↔ x=y:=by
  obtain⟨a,rfl⟩:=hx
  obtain⟨b,rfl⟩:=hy
  rw [rM,oV,K7]
  constructor
  . intro h g hg
    have:=h g hg
    cases ha:a g <;> cases hb:b g <;> simp_all
  . intro h g hg
    rw [h g hg];simp
theorem vQ {n:Nat}{A B:List Int}(hA:∀ a,IsT n (nth A a)) (hB:∀ a,IsT n (nth B a)):∀ (outs:List Int) (x:Int),IsT n x->(outs.foldl (fun acc a=>Builtin.bitOr acc (Builtin.bitXor (nth A a) (nth B a))) x=0 ↔ x=0 /\ ∀ a ∈ outs,nth A a=nth B a)
  | [],x,h=>by simp
  | a :: outs,x,h=>by
    rw [List.foldl_cons,vQ hA hB outs _ (h.or ((hA a).xor (hB a))),Z2u h ((hA a).xor (hB a)),Z0 (hA a) (hB a)]
    simp only [List.mem_cons,forall_eq_or_imp,and_assoc]
theorem B4 {n:Nat}{A B:List Int}(hA:∀ a,IsT n (nth A a)) (hB:∀ a,IsT n (nth B a)) (outs:List Int):mK A B outs=0 ↔ outs.map (nth B)=outs.map (nth A):=by
  unfold mK
  rw [vQ hA hB outs 0 (pD n)]
  constructor
  . intro ⟨_,h⟩
    exact List.map_congr_left fun a ha=>(h a ha).symm
  . intro h
    refine⟨rfl,fun a ha=>?_⟩
    have:=List.map_inj_left.mp h a ha
    exact this.symm
theorem zR (n:Nat):∀ (xs ys:List Int),xs.length=ys.length->eqL (eqN (n + 1)) (xs.map D.int) (ys.map D.int)=some (decide (xs=ys))
  | [],[],_=>by simp [eqL_nil]
  | [],_ :: _,h=>by cases h
  | _ :: _,[],h=>by cases h
  | x :: xs,y :: ys,h=>by
    have ih:=zR n xs ys (by simpa using h)
    simp only [List.map_cons,eqL_cons,eqN_int,ih]
    by_cases h1:x=y
    . by_cases h2:xs=ys
      . simp [h1,h2]
      . simp [h1,h2]
    . simp [h1]
theorem Z4j {n:Nat}{xs ys:List Int}(h:xs.length=ys.length):eqN (n + 2) (LI xs) (LI ys)=some (decide (xs=ys)):=by
  unfold LI
  rw [pJ,if_pos (by simpa using h)]
  exact zR n xs ys h
theorem rT {α:Type}(φ ψ:α->D):∀ (xs:List α),nW (xs.map φ) (xs.map ψ)=xs.map fun x=>.tup [φ x,ψ x]
  | []=>rfl
  | x :: xs=>by simp only [List.map_cons,nW];rw [rT φ ψ xs]
noncomputable def top (i:Nat):Stmt:=PySem.Challenge.pw_stuckwire_k24_whole_hard_ones_tell_all.main.body.getD i (.Pass ⟨0,0,0,0⟩)
noncomputable abbrev dH:Stmt:=top 11
noncomputable abbrev dY:Stmt:=top 10
noncomputable abbrev dG:Stmt:=top 9
noncomputable abbrev fX:Stmt:=top 8
noncomputable abbrev jI:Stmt:=top 7
noncomputable abbrev dI:Stmt:=top 5
noncomputable abbrev cH:Stmt:=top 6
noncomputable abbrev fH:Stmt:=top 2
noncomputable abbrev gD:Stmt:=top 4
noncomputable abbrev cB:Stmt:=top 3
noncomputable abbrev dF:Stmt:=top 15
noncomputable abbrev hJ:Stmt:=top 13
noncomputable abbrev cC:Stmt:=top 16
noncomputable abbrev dJ:Stmt:=top 14
noncomputable abbrev eE:Stmt:=top 18
noncomputable abbrev eS:Stmt:=top 17
noncomputable abbrev hX:Stmt:=top 20
noncomputable abbrev lU:Stmt:=top 21
noncomputable abbrev hZ:Stmt:=top 22
noncomputable abbrev eY:Stmt:=top 24
noncomputable abbrev lV:Stmt:=top 23
noncomputable abbrev lT:Stmt:=top 26
noncomputable abbrev fZ:Stmt:=top 27
noncomputable abbrev gB:Stmt:=top 28
noncomputable abbrev hU:Stmt:=top 29
noncomputable abbrev hV:Stmt:=top 30
noncomputable abbrev gA:Stmt:=top 32
noncomputable abbrev gC:Stmt:=top 31
noncomputable abbrev jH:Stmt:=top 33
noncomputable abbrev cV:Stmt:=top 34
noncomputable abbrev fY:Stmt:=top 35
noncomputable abbrev cG:Stmt:=top 36
noncomputable abbrev dZ:Stmt:=top 37
noncomputable abbrev jG:Stmt:=top 38
noncomputable abbrev eD:Stmt:=top 39
noncomputable abbrev eU:Stmt:=top 40
noncomputable abbrev eT:Stmt:=top 41
noncomputable abbrev eV:Stmt:=top 42
noncomputable abbrev eB:Stmt:=top 43
noncomputable abbrev mL:Stmt:=top 44
noncomputable abbrev cI:Stmt:=Z2O (top 1) 0
noncomputable def iL (C:Addr):List D->Option D:=fun ds=>match ds with
  | [i,r,o]=>match (bF (aB 1)) [none,some (false,i),some (false,r),some (false,o)],(bZ [] (dW (aB 2)) fTT (fB1 xS (aC (aB 0) aL))) [none,some (false,i),some (false,r),some (false,o)],(fB1 iD (aC (aB 3) aL)) [none,some (false,i),some (false,r),some (false,o)] with
    | some a,some b,some c=>some (.obj C ["ins","rows","outs"] [a,b,c])
    | _,_,_=>none
  | _=>none
noncomputable def jM (C:Addr):En->Res :=
    (aO (bV 3 (bF (fIx (aB 0) (fC (.int 0)))))
    (aO (rIf (fEq (aB 3) (fC (.str "fix"))) (cD (fI2 IntMulOk (fun i j=>.int (i * j)) (aB 2) (fIx (aB 0) (fC (.int 1))))) cK)
    (aO (rIf (fEq (aB 3) (fC (.str "not"))) (cD (fI0 (fun i j=>.int (Builtin.bitXor i j)) (aB 2) (fIx (aB 1) (fC (.int 0))))) cK)
    (aO (rIf (fEq (aB 3) (fC (.str "and"))) (cD (fI0 (fun i j=>.int (Builtin.bitAnd i j)) (fIx (aB 1) (fC (.int 0))) (fIx (aB 1) (fC (.int 1))))) cK)
    (aO (rIf (fEq (aB 3) (fC (.str "or"))) (cD (fI0 (fun i j=>.int (Builtin.bitOr i j)) (fIx (aB 1) (fC (.int 0))) (fIx (aB 1) (fC (.int 1))))) cK)
    (cD (fI0 (fun i j=>.int (Builtin.bitXor i j)) (fIx (aB 1) (fC (.int 0))) (fIx (aB 1) (fC (.int 1))))))))))
noncomputable def cX (C:Addr):List D->Option D:=runF 4 (jM C)
noncomputable def kN (C:Addr):En->Res :=
    (aO (rIf (fEq (fIx (aB 0) (fC (.int 0))) (fC (.str "fix"))) (cD (jN aL)) cK)
    (cD (fB1 iD (aC (fSl (aB 0) (fP (fC (.int 1))) nF) aL))))
noncomputable def cP (C:Addr):List D->Option D:=runF 1 (kN C)
noncomputable def iC (C:Addr):En->Res :=
    (aO (bV 5 (bZ [2] (dW (aQ (cP C) [] (aC (aB 0) aL))) fTT (bF (fIx (aB 1) (aB 0)))))
    (aO (rIf (kG (uM true (aB 4)) (kG (fEq (fIx (aB 4) (fC (.int 0))) (fC (.str "leg"))) (fEq (fIx (aB 4) (fC (.int 1))) (aB 1)))) (yL 5 (fIx (aB 4) (fC (.int 2))) (fI2 IntMulOk (fun i j=>.int (i * j)) (aB 3) (fIx (aB 4) (fC (.int 3))))) cK)
    (jY 5)))
noncomputable def cM (C:Addr):List D->Option D:=runF 6 (iC C)
noncomputable def lK (C:Addr):En->Res :=
    (aO (rIf (kG (uM true (aB 3)) (kG (fEq (fIx (aB 3) (fC (.int 0))) (fC (.str "wire"))) (fEq (fIx (aB 3) (fC (.int 1))) (aB 1)))) (cD (fI2 IntMulOk (fun i j=>.int (i * j)) (aB 2) (fIx (aB 3) (fC (.int 2))))) cK)
    (cD (bF (aB 0))))
noncomputable def dX (C:Addr):List D->Option D:=runF 4 (lK C)
noncomputable def O2 (C:Addr):En->Res :=
    (aO (bV 4 (jN aL))
    (aO (dR [1] (dW (aB 1)) (gtN 5) (iW 4 (aQ (dX C) [] (aC (aB 5) (aC (fB1 bT (aC (aB 4) aL)) (aC (aB 2) (aC (aB 3) aL)))))))
    (aO (dR [0] (dW (jO C "rows" (aB 0))) (gtN 6) (aO (bV 7 (fB1 bT (aC (aB 4) aL)))
    (aO (bV 8 (aQ (cM C) [] (aC (aB 6) (aC (aB 7) (aC (aB 4) (aC (aB 2) (aC (aB 3) aL)))))))
    (iW 4 (aQ (dX C) [] (aC (aQ (cX C) [] (aC (aB 6) (aC (aB 8) (aC (aB 2) aL)))) (aC (aB 7) (aC (aB 2) (aC (aB 3) aL)))))))))
    (jY 4))))
noncomputable def nS (C:Addr):List D->Option D:=runF 9 (O2 C)
noncomputable def pE (C:Addr):En->Res :=
    (cD (fI0 (fun i j=>.int (i - j)) (fI2 gO (fun i j=>.int (i * 2 ^ j.toNat)) (fC (.int 1)) (fI2 gO (fun i j=>.int (i * 2 ^ j.toNat)) (fC (.int 1)) (aB 0))) (fC (.int 1))))
noncomputable def dN (C:Addr):List D->Option D:=runF 1 (pE C)
noncomputable def nC (C:Addr):En->Res :=
    (aO (bV 1 (jN aL))
    (aO (dR [] (sB1 fJ (aC (aB 0) aL)) (gtN 2) (aO (bV 3 (fI2 gO (fun i j=>.int (i * 2 ^ j.toNat)) (fC (.int 1)) (aB 2)))
    (aO (bV 1 (bZ [3] (dW (aB 1)) fTT (fI0 (fun i j=>.int (Builtin.bitOr i j)) (aB 0) (fI2 gO (fun i j=>.int (i * 2 ^ j.toNat)) (aB 0) (aB 1)))))
    (iW 1 (fI2 gO (fun i j=>.int (i * 2 ^ j.toNat)) (aQ (dN C) [] (aC (aB 2) aL)) (aB 3))))))
    (jY 1)))
noncomputable def eN (C:Addr):List D->Option D:=runF 4 (nC C)
noncomputable def Z1i (C:Addr):En->Res :=
    (cD (aQ (nS C) [] (aC (aB 0) (aC (aQ (eN C) [] (aC (jO C "ins" (aB 0)) aL)) (aC (aQ (dN C) [] (aC (jO C "ins" (aB 0)) aL)) (aC (aB 1) aL))))))
noncomputable def kB (C:Addr):List D->Option D:=runF 2 (Z1i C)
noncomputable def W5 (C:Addr):En->Res :=
    (cD (bZ [1] (dW (jO C "outs" (aB 0))) fTT (bF (fIx (aB 1) (aB 0)))))
noncomputable def jT (C:Addr):List D->Option D:=runF 2 (W5 C)
noncomputable def xD (C:Addr):En->Res :=
    (cD (aQ (jT C) [] (aC (aB 0) (aC (aQ (kB C) [] (aC (aB 0) (aC (aB 1) aL))) aL))))
noncomputable def bY (C:Addr):List D->Option D:=runF 2 (xD C)
noncomputable def mH (C:Addr):En->Res :=
    (aO (rIf (fBI (fun i j=>decide (i < j)) (aB 1) (jO C "ins" (aB 0))) (cD (jN aL)) cK)
    (cD (aQ (cP C) [] (aC (fIx (jO C "rows" (aB 0)) (fI0 (fun i j=>.int (i - j)) (aB 1) (jO C "ins" (aB 0)))) aL))))
noncomputable def cE (C:Addr):List D->Option D:=runF 2 (mH C)
noncomputable def zH (C:Addr):En->Res :=
    (aO (bV 1 (fC (.dk [] [])))
    (aO (dR [0] (dW (jO C "outs" (aB 0))) (gtN 2) (sI 1 (aB 2) (fC (.bl true))))
    (aO (dR [] (sB1 A4 (aC (fI0 (fun i j=>.int (i - j)) (fI0 (fun i j=>.int (i + j)) (jO C "ins" (aB 0)) (fB1 bT (aC (jO C "rows" (aB 0)) aL))) (fC (.int 1))) (aC (fI0 (fun i j=>.int (i - j)) (jO C "ins" (aB 0)) (fC (.int 1))) (aC (fC (.int (-1))) aL)))) (gtN 3) (rIf (J8 (aB 3) (aB 1)) (dR [] (dW (aQ (cE C) [] (aC (aB 0) (aC (aB 3) aL)))) (gtN 4) (sI 1 (aB 4) (fC (.bl true)))) cK))
    (cD (fB1 xT (aC (aB 1) aL))))))
noncomputable def lF (C:Addr):List D->Option D:=runF 5 (zH C)
noncomputable def jC (C:Addr):En->Res :=
    (aO (rIf (kG (fBI (fun i j=>decide (j <= i)) (aB 1) (jO C "ins" (aB 0))) (fEq (fIx (fIx (jO C "rows" (aB 0)) (fI0 (fun i j=>.int (i - j)) (aB 1) (jO C "ins" (aB 0)))) (fC (.int 0))) (fC (.str "fix")))) (cD (jN (aC (fI0 (fun i j=>.int (i - j)) (fC (.int 1)) (fIx (fIx (jO C "rows" (aB 0)) (fI0 (fun i j=>.int (i - j)) (aB 1) (jO C "ins" (aB 0)))) (fC (.int 1)))) aL))) cK)
    (cD (jN (aC (fC (.int 0)) (aC (fC (.int 1)) aL)))))
noncomputable def bE (C:Addr):List D->Option D:=runF 2 (jC C)
noncomputable def pF (C:Addr):En->Res :=
    (aO (bV 1 (jN aL))
    (aO (dR [] (dW (aQ (lF C) [] (aC (aB 0) aL))) (gtN 2) (aO (dR [] (dW (aQ (bE C) [] (aC (aB 0) (aC (aB 2) aL)))) (gtN 3) (iW 1 (kF (aC (fC (.str "wire")) (aC (bF (aB 2)) (aC (bF (aB 3)) aL))))))
    (dR [] (sB1 wD (aC (aQ (cE C) [] (aC (aB 0) (aC (aB 2) aL))) aL)) (gtT [4,5]) (dR [] (dW (aQ (bE C) [] (aC (aB 0) (aC (aB 5) aL)))) (gtN 3) (iW 1 (kF (aC (fC (.str "leg")) (aC (bF (aB 2)) (aC (bF (aB 4)) (aC (bF (aB 3)) aL))))))))))
    (jY 1)))
noncomputable def cY (C:Addr):List D->Option D:=runF 6 (pF C)
noncomputable def rB (C:Addr):En->Res :=
    (aO (bV 2 (fC (.int 0)))
    (aO (dR [0,1] (sB1 A3 (aC (aB 0) (aC (aB 1) aL))) (gtT [3,4]) (bV 2 (fI0 (fun i j=>.int (Builtin.bitOr i j)) (aB 2) (fI0 (fun i j=>.int (Builtin.bitXor i j)) (aB 3) (aB 4)))))
    (cD (bF (aB 2)))))
noncomputable def hE (C:Addr):List D->Option D:=runF 5 (rB C)
noncomputable def tJ (C:Addr):En->Res :=
    (aO (bV 2 (aQ (bY C) [.non] (aC (aB 0) aL)))
    (cD (bZ [2,0] (dW (aB 1)) fTT (aQ (hE C) [] (aC (aB 1) (aC (aQ (bY C) [] (aC (aB 2) (aC (aB 0) aL))) aL))))))
noncomputable def fT (C:Addr):List D->Option D:=runF 3 (tJ C)
noncomputable def zK (C:Addr):En->Res :=
    (aO (bV 1 (fC (.dt [] [])))
    (aO (dR [] (dW (aQ (cY C) [] (aC (aB 0) aL))) (gtN 2) (pS 1 2 (aQ (bY C) [] (aC (aB 0) (aC (aB 2) aL)))))
    (sG 1)))
noncomputable def kC (C:Addr):List D->Option D:=runF 3 (zK C)
noncomputable def Z1k (C:Addr):En->Res :=
    (aO (bV 1 (aQ (cY C) [] (aC (aB 0) aL)))
    (cD (bZ [] (sB1 A3 (aC (aB 1) (aC (aQ (fT C) [] (aC (aB 0) (aC (aB 1) aL))) aL))) (un2 (fEq (aB 1) (fC (.int 0)))) (un2 (bF (aB 0))))))
noncomputable def pW (C:Addr):List D->Option D:=runF 2 (Z1k C)
noncomputable def zL (C:Addr):En->Res :=
    (cD (mP (kG (fB (mP (mQ (fEq (aB 1) (fC (.int 0)))))) (fB (mP (fEq (fI0 (fun i j=>.int (Builtin.bitOr i j)) (aB 0) (aB 1)) (aB 0)))))))
noncomputable def iX (C:Addr):List D->Option D:=runF 2 (zL C)
noncomputable def oN (C:Addr):En->Res :=
    (aO (rIf (fEq (aB 0) (fC (.int 0))) (cD (fC (.bl false))) cK)
    (cD (fB1 Z1N (aC (bZ [0] (dW (aB 1)) (fB (aQ (iX C) [] (aC (aB 1) (aC (aB 0) aL)))) (mP (fEq (aB 0) (aB 1)))) aL))))
noncomputable def fV (C:Addr):List D->Option D:=runF 2 (oN C)
noncomputable def Z1l (C:Addr):En->Res :=
    (aO (bV 1 (aQ (cY C) [] (aC (aB 0) aL)))
    (aO (bV 2 (aQ (fT C) [] (aC (aB 0) (aC (aB 1) aL))))
    (cD (bZ [2] (sB1 A3 (aC (aB 1) (aC (aB 2) aL))) (un2 (fB (aQ (fV C) [] (aC (aB 1) (aC (aB 2) aL))))) (un2 (bF (aB 0)))))))
noncomputable def pX (C:Addr):List D->Option D:=runF 3 (Z1l C)
noncomputable def Z1j (C:Addr):En->Res :=
    (aO (rIf (fBI (fun i j=>decide (i < j)) (aB 1) (fB1 bT (aC (aB 0) aL))) (cD (bF (fIx (aB 0) (aB 1)))) cK)
    (cD (fC (.int 0))))
noncomputable def jB (C:Addr):List D->Option D:=runF 2 (Z1j C)
noncomputable def qH (C:Addr):En->Res :=
    (aO (rIf (fBI (fun i j=>decide (j <= i)) (aB 0) (fI2 Z3b (fun i j=>.int (i ^ j.toNat)) (fC (.int 10)) (fC (.int 40)))) (cD (fI2 (fun _ j=>0 < j) (fun i j=>.int (i % j)) (fI2 eR (fun i j=>.int (i / j)) (fI0 (fun i j=>.int (i - j)) (aB 0) (fI2 Z3b (fun i j=>.int (i ^ j.toNat)) (fC (.int 10)) (fC (.int 40)))) (fI2 gO (fun i j=>.int (i * 2 ^ j.toNat)) (fC (.int 1)) (fI2 IntMulOk (fun i j=>.int (i * j)) (fC (.int 31)) (fI2 (fun _ j=>0 < j) (fun i j=>.int (i % j)) (aB 1) (fC (.int 60)))))) (fI2 gO (fun i j=>.int (i * 2 ^ j.toNat)) (fC (.int 1)) (fC (.int 31))))) cK)
    (aO (bV 2 (fI2 (fun _ j=>0 < j) (fun i j=>.int (i % j)) (fI0 (fun i j=>.int (i + j)) (fI0 (fun i j=>.int (i + j)) (fI2 IntMulOk (fun i j=>.int (i * j)) (aB 0) (fC (.int 1103515245))) (fI2 IntMulOk (fun i j=>.int (i * j)) (fI2 IntMulOk (fun i j=>.int (i * j)) (fC (.int 7919)) (aB 1)) (aB 1))) (aB 1)) (fC (.int 2147483647))))
    (aO (bV 2 (fI2 (fun _ j=>0 < j) (fun i j=>.int (i % j)) (fI2 IntMulOk (fun i j=>.int (i * j)) (aB 2) (aB 2)) (fC (.int 2147483629))))
    (cD (fI2 (fun _ j=>0 < j) (fun i j=>.int (i % j)) (fI2 IntMulOk (fun i j=>.int (i * j)) (aB 2) (fC (.int 69621))) (fC (.int 2147483587)))))))
noncomputable def fK (C:Addr):List D->Option D:=runF 3 (qH C)
noncomputable def vO (C:Addr):En->Res :=
    (aO (bV 2 (bZ [] (sB1 fJ (aC (aB 1) aL)) fTT (fI0 (fun i j=>.int (i + j)) (fI2 IntMulOk (fun i j=>.int (i * j)) (aB 0) (aB 0)) (fC (.int 1)))))
    (aO (bV 3 (fSl (aB 0) nF (fP (fC (.int 63)))))
    (aO (dR [] (sB1 A5 (aC (fC (.int 2)) (aC (fB1 bT (aC (aB 3) aL)) aL))) (gtN 4) (aO (bV 5 (fI2 (fun _ j=>0 < j) (fun i j=>.int (i % j)) (aB 4) (aB 1)))
    (aO (bV 6 (fI0 (fun i j=>.int (i + j)) (fI2 IntMulOk (fun i j=>.int (i * j)) (fIx (aB 2) (aB 5)) (fC (.int 31))) (aQ (fK C) [] (aC (fIx (aB 3) (aB 4)) (aC (aB 4) aL)))))
    (yL 2 (aB 5) (fI2 (fun _ j=>0 < j) (fun i j=>.int (i % j)) (aB 6) (fC (.int 2147483629)))))))
    (jY 2))))
noncomputable def jR (C:Addr):List D->Option D:=runF 7 (vO C)
noncomputable def zI (C:Addr):En->Res :=
    (aO (bV 2 (jN aL))
    (aO (dR [1] (dW (aB 1)) (gtN 3) (aO (bV 4 (fI0 (fun i j=>.int (i + j)) (aB 0) (fB1 bT (aC (aB 2) aL))))
    (aO (bV 5 (fI0 (fun i j=>.int (i - j)) (fI0 (fun i j=>.int (i - j)) (aB 4) (fC (.int 1))) (fI2 (fun _ j=>0 < j) (fun i j=>.int (i % j)) (fI2 eR (fun i j=>.int (i / j)) (aB 3) (fC (.int 16))) (fB1 Y8 (aC (fC (.int 1)) (aC (fB1 Z3a (aC (aB 4) (aC (fC (.int 5)) aL))) aL))))))
    (aO (bV 6 (fI0 (fun i j=>.int (i - j)) (fI0 (fun i j=>.int (i - j)) (aB 4) (fC (.int 1))) (fI2 (fun _ j=>0 < j) (fun i j=>.int (i % j)) (fI2 eR (fun i j=>.int (i / j)) (aB 3) (fC (.int 80))) (fB1 Y8 (aC (fC (.int 1)) (aC (aB 4) aL))))))
    (rIf (fOr (fEq (aB 4) (fC (.int 0))) (fEq (fI2 (fun _ j=>0 < j) (fun i j=>.int (i % j)) (aB 3) (fC (.int 16))) (fC (.int 0)))) (iW 2 (kF (aC (fC (.str "fix")) (aC (fI2 (fun _ j=>0 < j) (fun i j=>.int (i % j)) (fI2 eR (fun i j=>.int (i / j)) (aB 3) (fC (.int 16))) (fC (.int 2))) aL)))) (rIf (fBI (fun i j=>decide (i < j)) (fI2 (fun _ j=>0 < j) (fun i j=>.int (i % j)) (aB 3) (fC (.int 16))) (fC (.int 4))) (iW 2 (kF (aC (fC (.str "not")) (aC (bF (aB 5)) aL)))) (iW 2 (kF (aC (bF (fIx (jN (aC (fC (.str "and")) (aC (fC (.str "or")) (aC (fC (.str "xor")) (aC (fC (.str "and")) aL))))) (fI2 (fun _ j=>0 < j) (fun i j=>.int (i % j)) (aB 3) (fC (.int 4))))) (aC (bF (aB 5)) (aC (bF (aB 6)) aL)))))))))))
    (jY 2)))
noncomputable def lG (C:Addr):List D->Option D:=runF 7 (zI C)
noncomputable def zJ (C:Addr):En->Res :=
    (aO (bV 2 (jN (aC (fI0 (fun i j=>.int (i - j)) (aB 0) (fC (.int 1))) aL)))
    (aO (dR [] (sB1 fJ (aC (fI2 (fun _ j=>0 < j) (fun i j=>.int (i % j)) (aB 1) (fC (.int 4))) aL)) (gtN 3) (iW 2 (fI2 (fun _ j=>0 < j) (fun i j=>.int (i % j)) (fI2 eR (fun i j=>.int (i / j)) (aB 1) (fI0 (fun i j=>.int (i + j)) (aB 3) (fC (.int 4)))) (aB 0))))
    (aO (rIf (fEq (fI2 (fun _ j=>0 < j) (fun i j=>.int (i % j)) (fI2 eR (fun i j=>.int (i / j)) (aB 1) (fC (.int 64))) (fC (.int 16))) (fC (.int 0))) (iA 2 2 (bZ [0,1] (sB1 fJ (aC (fI0 (fun i j=>.int (i - j)) (fC (.int 16)) (fB1 bT (aC (aB 2) aL))) aL)) fTT (fI2 (fun _ j=>0 < j) (fun i j=>.int (i % j)) (fI2 IntMulOk (fun i j=>.int (i * j)) (aB 0) (aB 2)) (aB 1)))) cK)
    (aO (rIf (fEq (fI2 (fun _ j=>0 < j) (fun i j=>.int (i % j)) (fI2 eR (fun i j=>.int (i / j)) (aB 1) (fC (.int 1024))) (fC (.int 3))) (fC (.int 0))) (bV 2 (xI (aB 2))) cK)
    (jY 2)))))
noncomputable def lH (C:Addr):List D->Option D:=runF 4 (zJ C)
noncomputable def vN (C:Addr):En->Res :=
    (aO (bV 2 (fC (.int 0)))
    (aO (dR [] (sB1 fJ (aC (fI2 gO (fun i j=>.int (i * 2 ^ j.toNat)) (fC (.int 1)) (aB 0)) aL)) (gtN 3) (rIf (fEq (fI2 (fun _ j=>0 < j) (fun i j=>.int (i % j)) (fI2 eR (fun i j=>.int (i / j)) (aB 3) (fI2 gO (fun i j=>.int (i * 2 ^ j.toNat)) (fC (.int 1)) (aB 1))) (fC (.int 2))) (fC (.int 1))) (bV 2 (fI0 (fun i j=>.int (i + j)) (aB 2) (fI2 gO (fun i j=>.int (i * 2 ^ j.toNat)) (fC (.int 1)) (aB 3)))) cK))
    (cD (bF (aB 2)))))
noncomputable def gY (C:Addr):List D->Option D:=runF 4 (vN C)
noncomputable def vP (C:Addr):En->Res :=
    (aO (bV 1 (aQ (jB C) [] (aC (aB 0) (aC (fC (.int 0)) aL))))
    (aO (bV 2 (bF (fIx (jN (aC (fI2 (fun _ j=>0 < j) (fun i j=>.int (i % j)) (aB 1) (fC (.int 4))) (aC (fI2 (fun _ j=>0 < j) (fun i j=>.int (i % j)) (fI2 eR (fun i j=>.int (i / j)) (aB 1) (fC (.int 4))) (fC (.int 6))) aL))) (fB1 rL (aC (mP (fEq (fI2 (fun _ j=>0 < j) (fun i j=>.int (i % j)) (fI2 eR (fun i j=>.int (i / j)) (aB 1) (fC (.int 36))) (fC (.int 6))) (fC (.int 5)))) aL)))))
    (aO (bV 3 (aQ (jR C) [] (aC (aB 0) (aC (fC (.int 11)) aL))))
    (aO (bV 4 (aQ (lG C) [] (aC (aB 2) (aC (fSl (aB 3) nF (fP (fI2 (fun _ j=>0 < j) (fun i j=>.int (i % j)) (aQ (jB C) [] (aC (aB 0) (aC (fC (.int 1)) aL))) (fC (.int 11))))) aL))))
    (aO (rIf (fEq (fI0 (fun i j=>.int (i + j)) (aB 2) (fB1 bT (aC (aB 4) aL))) (fC (.int 0))) (bV 4 (jN (aC (kF (aC (fC (.str "fix")) (aC (fI2 (fun _ j=>0 < j) (fun i j=>.int (i % j)) (fI2 eR (fun i j=>.int (i / j)) (aB 1) (fC (.int 216))) (fC (.int 2))) aL))) aL))) cK)
    (aO (bV 5 (aQ (lH C) [] (aC (fI0 (fun i j=>.int (i + j)) (aB 2) (fB1 bT (aC (aB 4) aL))) (aC (fIx (aB 3) (fC (.int 10))) aL))))
    (yK (.inl 2 :: (.inl 4 :: (.inl 5 :: (.inr (bZ [2] (sB1 fJ (aC (aB 2) aL)) fTT (aQ (gY C) [] (aC (aB 1) (aC (aB 0) aL)))) :: [])))))))))))
noncomputable def jS (C:Addr):List D->Option D:=runF 6 (vP C)
noncomputable def O1 (C:Addr):En->Res :=
    (aO (rIf (kG (uM true (aB 3)) (fEq (J6 (aB 3) nF (fP (fC (.int 3)))) (kF (aC (fC (.str "leg")) (aC (aB 4) (aC (aB 2) aL)))))) (cD (fI2 IntMulOk (fun i j=>.int (i * j)) (aB 5) (fIx (aB 3) (fC (.int 3))))) cK)
    (cD (bF (fIx (aB 0) (fIx (aB 1) (fI0 (fun i j=>.int (i + j)) (aB 2) (fC (.int 1))))))))
noncomputable def mD (C:Addr):List D->Option D:=runF 6 (O1 C)
noncomputable def iT (C:Addr):En->Res :=
    (aO (rIf (fEq (fIx (aB 1) (fC (.int 0))) (fC (.str "fix"))) (cD (fI2 IntMulOk (fun i j=>.int (i * j)) (aB 4) (fIx (aB 1) (fC (.int 1))))) cK)
    (aO (bV 5 (aQ (mD C) [] (aC (aB 0) (aC (aB 1) (aC (fC (.int 0)) (aC (aB 2) (aC (aB 3) (aC (aB 4) aL))))))))
    (aO (rIf (fEq (fIx (aB 1) (fC (.int 0))) (fC (.str "not"))) (cD (fI0 (fun i j=>.int (i - j)) (aB 4) (aB 5))) cK)
    (aO (bV 6 (aQ (mD C) [] (aC (aB 0) (aC (aB 1) (aC (fC (.int 1)) (aC (aB 2) (aC (aB 3) (aC (aB 4) aL))))))))
    (aO (rIf (fEq (fIx (aB 1) (fC (.int 0))) (fC (.str "and"))) (cD (fI0 (fun i j=>.int (Builtin.bitAnd i j)) (aB 5) (aB 6))) cK)
    (aO (rIf (fEq (fIx (aB 1) (fC (.int 0))) (fC (.str "or"))) (cD (fI0 (fun i j=>.int (Builtin.bitOr i j)) (aB 5) (aB 6))) cK)
    (cD (fI0 (fun i j=>.int (i - j)) (fI0 (fun i j=>.int (Builtin.bitOr i j)) (aB 5) (aB 6)) (fI0 (fun i j=>.int (Builtin.bitAnd i j)) (aB 5) (aB 6))))))))))
noncomputable def cW (C:Addr):List D->Option D:=runF 7 (iT C)
noncomputable def vM (C:Addr):En->Res :=
    (aO (Z0e [0] (gtT [2,3,4,5]) (aB 0))
    (aO (bV 6 (fI0 (fun i j=>.int (i - j)) (fI2 gO (fun i j=>.int (i * 2 ^ j.toNat)) (fC (.int 1)) (fI2 gO (fun i j=>.int (i * 2 ^ j.toNat)) (fC (.int 1)) (aB 2))) (fC (.int 1))))
    (aO (bV 7 (jN aL))
    (aO (dR [] (sB1 fJ (aC (fI0 (fun i j=>.int (i + j)) (aB 2) (fB1 bT (aC (aB 3) aL))) aL)) (gtN 8) (rIf (kG (uM true (aB 1)) (fEq (J6 (aB 1) nF (fP (fC (.int 2)))) (kF (aC (fC (.str "wire")) (aC (aB 8) aL))))) (iW 7 (fI2 IntMulOk (fun i j=>.int (i * j)) (aB 6) (fIx (aB 1) (fC (.int 2))))) (rIf (fBI (fun i j=>decide (i < j)) (aB 8) (aB 2)) (iW 7 (bF (fIx (aB 5) (aB 8)))) (iW 7 (aQ (cW C) [] (aC (aB 7) (aC (fIx (aB 3) (fI0 (fun i j=>.int (i - j)) (aB 8) (aB 2))) (aC (aB 1) (aC (aB 8) (aC (aB 6) aL))))))))))
    (jY 7)))))
noncomputable def jQ (C:Addr):List D->Option D:=runF 9 (vM C)
noncomputable def nA (C:Addr):En->Res :=
    (aO (bV 2 (aQ (jQ C) [] (aC (aB 0) (aC (aB 1) aL))))
    (cD (bZ [2] (dW (fIx (aB 0) (fC (.int 2)))) fTT (bF (fIx (aB 1) (aB 0))))))
noncomputable def cN (C:Addr):List D->Option D:=runF 3 (nA C)
noncomputable def qZ (C:Addr):En->Res :=
    (aO (bV 2 (fC (.int 0)))
    (aO (dR [] (sB1 fJ (aC (fB1 bT (aC (aB 0) aL)) aL)) (gtN 3) (bV 2 (fI0 (fun i j=>.int (Builtin.bitOr i j)) (aB 2) (fI0 (fun i j=>.int (i - j)) (fI0 (fun i j=>.int (Builtin.bitOr i j)) (fIx (aB 0) (aB 3)) (fIx (aB 1) (aB 3))) (fI0 (fun i j=>.int (Builtin.bitAnd i j)) (fIx (aB 0) (aB 3)) (fIx (aB 1) (aB 3)))))))
    (cD (bF (aB 2)))))
noncomputable def fU (C:Addr):List D->Option D:=runF 4 (qZ C)
noncomputable def xE (C:Addr):En->Res :=
    (aO (rIf (fOr (fBI (fun i j=>decide (i < j)) (aB 1) (fIx (aB 0) (fC (.int 0)))) (fEq (fIx (fIx (fIx (aB 0) (fC (.int 1))) (fI0 (fun i j=>.int (i - j)) (aB 1) (fIx (aB 0) (fC (.int 0))))) (fC (.int 0))) (fC (.str "fix")))) (cD (jN aL)) cK)
    (cD (fB1 iD (aC (fSl (fIx (fIx (aB 0) (fC (.int 1))) (fI0 (fun i j=>.int (i - j)) (aB 1) (fIx (aB 0) (fC (.int 0))))) (fP (fC (.int 1))) nF) aL))))
noncomputable def jL (C:Addr):List D->Option D:=runF 2 (xE C)
noncomputable def nB (C:Addr):En->Res :=
    (aO (rIf (kG (fBI (fun i j=>decide (j <= i)) (aB 1) (fIx (aB 0) (fC (.int 0)))) (fEq (fIx (fIx (fIx (aB 0) (fC (.int 1))) (fI0 (fun i j=>.int (i - j)) (aB 1) (fIx (aB 0) (fC (.int 0))))) (fC (.int 0))) (fC (.str "fix")))) (cD (jN (aC (fI0 (fun i j=>.int (i - j)) (fC (.int 1)) (fIx (fIx (fIx (aB 0) (fC (.int 1))) (fI0 (fun i j=>.int (i - j)) (aB 1) (fIx (aB 0) (fC (.int 0))))) (fC (.int 1)))) aL))) cK)
    (cD (jN (aC (fC (.int 0)) (aC (fC (.int 1)) aL)))))
noncomputable def dB (C:Addr):List D->Option D:=runF 2 (nB C)
noncomputable def tK (C:Addr):En->Res :=
    (aO (bV 1 (fB1 iD (aC (fIx (aB 0) (fC (.int 2))) aL)))
    (aO (dR [] (sB1 A6 (aC (fI0 (fun i j=>.int (i + j)) (fIx (aB 0) (fC (.int 0))) (fB1 bT (aC (fIx (aB 0) (fC (.int 1))) aL))) aL)) (gtN 2) (rIf (fIn (aB 2) (aB 1)) (iA 1 1 (aQ (jL C) [] (aC (aB 0) (aC (aB 2) aL)))) cK))
    (aO (bV 3 (jN aL))
    (aO (dR [] (sB1 fJ (aC (fI0 (fun i j=>.int (i + j)) (fIx (aB 0) (fC (.int 0))) (fB1 bT (aC (fIx (aB 0) (fC (.int 1))) aL))) aL)) (gtN 2) (rIf (fIn (aB 2) (aB 1)) (aO (iA 3 3 (bZ [2] (dW (aQ (dB C) [] (aC (aB 0) (aC (aB 2) aL)))) fTT (kF (aC (fC (.str "wire")) (aC (bF (aB 1)) (aC (bF (aB 0)) aL))))))
    (aO (bV 4 (aQ (jL C) [] (aC (aB 0) (aC (aB 2) aL))))
    (dR [] (sB1 fJ (aC (fB1 bT (aC (aB 4) aL)) aL)) (gtN 5) (iA 3 3 (bZ [2,5] (dW (aQ (dB C) [] (aC (aB 0) (aC (fIx (aB 4) (aB 5)) aL)))) fTT (kF (aC (fC (.str "leg")) (aC (bF (aB 1)) (aC (bF (aB 2)) (aC (bF (aB 0)) aL)))))))))) cK))
    (jY 3)))))
noncomputable def iJ (C:Addr):List D->Option D:=runF 6 (tK C)
noncomputable def J2 (C:Addr):En->Res :=
    (cD (bZ [0] (sB1 fJ (aC (zQ (aB 0)) aL)) (fEq (fI2 (fun _ j=>0 < j) (fun i j=>.int (i % j)) (fI2 eR (fun i j=>.int (i / j)) (aB 1) (fI2 gO (fun i j=>.int (i * 2 ^ j.toNat)) (fC (.int 1)) (aB 0))) (fC (.int 2))) (fC (.int 1))) (bF (aB 0))))
noncomputable def iI (C:Addr):List D->Option D:=runF 1 (J2 C)
noncomputable def tL (C:Addr):En->Res :=
    (aO (bV 2 (fC (.int 0)))
    (aO (dR [] (sB1 fJ (aC (fB1 bT (aC (aB 0) aL)) aL)) (gtN 3) (aO (bV 4 (aQ (iI C) [] (aC (fIx (aB 0) (aB 3)) aL)))
    (aO (bV 5 (aQ (fK C) [] (aC (aQ (jB C) [] (aC (aB 1) (aC (fI2 (fun _ j=>0 < j) (fun i j=>.int (i % j)) (aB 3) (fC (.int 63))) aL))) (aC (fI0 (fun i j=>.int (i + j)) (aB 3) (fC (.int 11))) aL))))
    (bV 2 (fI0 (fun i j=>.int (Builtin.bitOr i j)) (aB 2) (fI2 gO (fun i j=>.int (i * 2 ^ j.toNat)) (fC (.int 1)) (fIx (aB 4) (fI2 (fun _ j=>0 < j) (fun i j=>.int (i % j)) (aB 5) (fB1 bT (aC (aB 4) aL))))))))))
    (cD (bF (aB 2)))))
noncomputable def iK (C:Addr):List D->Option D:=runF 6 (tL C)
noncomputable def rA (C:Addr):En->Res :=
    (aO (bV 4 (jN aL))
    (aO (dR [0] (dW (aB 0)) (gtN 5) (dR [5] (dW (aB 5)) (gtN 6) (aO (rIf (fOr (mQ (uN (aB 6) (aB 1))) (fOr (fIn (aB 6) (aB 4)) (mQ (fEq (dC (aB 2) (aB 6)) (dC (aB 2) (fIx (aB 5) (fC (.int 0)))))))) (cD (fC (.bl false))) cK)
    (iW 4 (bF (aB 6))))))
    (aO (vC 7 [0,2] (bZ [2] (dW (aB 0)) (fBI (fun i j=>decide (j < i)) (fB1 bT (aC (aB 0) aL)) (fC (.int 0))) (dC (aB 1) (fIx (aB 0) (fC (.int 0))))))
    (aO (dR [] (sB1 fJ (aC (fB1 bT (aC (aB 7) aL)) aL)) (gtN 8) (rIf (fIn (fIx (aB 7) (aB 8)) (uL (aB 7) nF (fP (aB 8)))) (cD (fC (.bl false))) cK))
    (aO (vC 9 [0] (bZ [1] (dW (aB 0)) (kG (fBI (fun i j=>decide (j < i)) (fB1 bT (aC (aB 0) aL)) (fC (.int 0))) (fEq (dC (aB 1) (fIx (aB 0) (fC (.int 0)))) (fC (.int 0)))) (aB 0)))
    (cD (mP (kG (fB (mP (fEq (fB1 bT (aC (aB 4) aL)) (fB1 wC (aC (aB 1) aL))))) (fB (mP (fEq (aB 9) (uL (jN (aC (aB 3) aL)) nF (fP (fB1 rL (aC (fI0 (fun i j=>.bl (decide (j < i))) (fB1 bT (aC (aB 3) aL)) (fC (.int 0))) aL)))))))))))))))
noncomputable def gZ (C:Addr):List D->Option D:=runF 10 (rA C)
noncomputable def Z3n (C:Addr):En->Res :=
    (aO (bV 1 (aQ (jS C) [] (aC (aB 0) aL)))
    (aO (bV 2 (fB1 (iL C) (aC (fIx (aB 1) (fC (.int 0))) (aC (fB1 iD (aC (fIx (aB 1) (fC (.int 1))) aL)) (aC (fB1 iD (aC (fIx (aB 1) (fC (.int 2))) aL)) aL)))))
    (aO (bV 3 (aQ (cN C) [] (aC (aB 1) (aC (fC .non) aL))))
    (aO (bV 4 (fC (.dt [] [])))
    (aO (bV 5 (fC (.dt [] [])))
    (aO (dR [] (dW (aQ (iJ C) [] (aC (aB 1) aL))) (gtN 6) (aO (vB 5 (aB 6) (aQ (cN C) [] (aC (aB 1) (aC (aB 6) aL))))
    (vB 4 (aB 6) (aQ (fU C) [] (aC (aB 3) (aC (dC (aB 5) (aB 6)) aL))))))
    (aO (bV 7 (aQ (pX C) [] (aC (aB 2) aL)))
    (aO (dR [7] (dW (aB 7)) (gtN 6) (aO (rIf (fOr (mQ (uN (aB 6) (aB 4))) (fEq (dC (aB 4) (aB 6)) (fC (.int 0)))) (cD (fC (.bl false))) cK)
    (dR [7] (dW (aB 7)) (gtN 8) (rIf (kG (mQ (fEq (dC (aB 4) (aB 8)) (dC (aB 4) (aB 6)))) (fEq (fI0 (fun i j=>.int (Builtin.bitOr i j)) (dC (aB 4) (aB 8)) (dC (aB 4) (aB 6))) (dC (aB 4) (aB 6)))) (cD (fC (.bl false))) cK))))
    (aO (bV 9 (aQ (iK C) [] (aC (bZ [4] (dW (aB 7)) fTT (bF (dC (aB 1) (aB 0)))) (aC (aB 0) aL))))
    (aO (dR [4] (Z1q (aB 4)) (gtN 6) (rIf (kG (fBI (fun i j=>decide (j < i)) (dC (aB 4) (aB 6)) (fC (.int 0))) (fEq (fI0 (fun i j=>.int (Builtin.bitAnd i j)) (dC (aB 4) (aB 6)) (aB 9)) (fC (.int 0)))) (cD (fC (.bl false))) cK))
    (cD (aQ (gZ C) [] (aC (aQ (kC C) [] (aC (aB 2) aL)) (aC (aB 4) (aC (aB 5) (aC (aQ (pW C) [] (aC (aB 2) aL)) aL))))))))))))))))
noncomputable def Z0W (C:Addr):List D->Option D:=runF 10 (Z3n C)
section
variable {P:Program}{w:World}{K:Frag}{mg:Str->Option Value}{base:Heap}{C fA:Addr}{fd:FuncData}
theorem sc_init_Circuit:aS ["self","ins","rows","outs"] ["self","ins","rows","outs"] (aE cI):=⟨rfl,rfl,rfl,by decide +kernel,rfl,by decide +kernel,by decide +kernel⟩
theorem rJ  (F:FunD K "__init__" "Circuit.__init__" cI fA fd) (z_list:mg "list" = none) (z_tuple:mg "tuple" = none) (hC:Cls K C) (hA_ins:NoAttr K C "ins") (hA_rows:NoAttr K C "rows") (hA_outs:NoAttr K C "outs") :
    FnOk P w K mg base CX0 1 fA fd ["self","ins","rows","outs"] (spI K C 3 (iL C)):=by
  have nd:=sc_init_Circuit.nd
  refine F.raw sc_init_Circuit (fun vs H Q E h=>Z1W h) fun cdv A outer s H vs Q E hr hsp=>?_
  obtain⟨x,dx,H0,us,ds,d,fp,rfl,hx,hdx,hne,rfl,h1,h2,h3,q⟩:=hsp
  obtain⟨F,hF⟩:=wI h2
  have hl:=h2.length
  match ds,us,h1,hl,hF,h3 with
  | [i,r,o],[u1,u2,u3],_,_,hF,h3 =>
    unfold iL at h3
    simp only at h3
    split at h3
    . rename_i a b c e1 e2 e3
      cases h3
      refine⟨_,sM (C7 (pv 0) (show QE _ true [] _ _ from (QE.flat (aA 1))) rfl) (sM (C7 (pv 0) (show QE _ true [] _ _ from (iB (fr:=[]) rfl (by rfl) (dA (aA 2)) (show List.Nodup (["row"]:List Str) from by decide +kernel) (by rfl) (fun _ _ _ _ _ _=>gQ) (fun _ _ _ _ _ _=>(qp (Z0m (by rfl) z_tuple (aA 0)))))) rfl) (M6 (C7 (pv 0) (show QE _ true [] _ _ from (qp (nP (by rfl) z_list (aA 3)))) rfl))),?_⟩
      refine Z5a (F:=fun i=>F (i - 1)) (us:=[u1,u2,u3]) (ds:=[i,r,o]) (fp:=fp) hx hdx hne (fun j ow d' e=>?_) rfl e1 e2 e3 hC hA_ins hA_rows hA_outs (by decide +kernel) (by decide +kernel) (by decide +kernel) q
      match j,e with
      | 1,e=>cases e;exact (let ⟨v,a1,a2⟩:=hF 0 i rfl;⟨v,by cases a1;rfl,a2⟩)
      | 2,e=>cases e;exact (let ⟨v,a1,a2⟩:=hF 1 r rfl;⟨v,by cases a1;rfl,a2⟩)
      | 3,e=>cases e;exact (let ⟨v,a1,a2⟩:=hF 2 o rfl;⟨v,by cases a1;rfl,a2⟩)
      | 0,e=>cases e
      | j + 4,e=>cases e
    . cases h3
theorem sc_gate_value:aS ["row","legs","ones","kind"] ["row","legs","ones"] (aE dH):=⟨rfl,rfl,rfl,by decide +kernel,rfl,by decide +kernel,by decide +kernel⟩
theorem uH   (F:FunD K "gate_value" "gate_value" dH fA fd)  :
    FnOk P w K mg base CX0 1 fA fd ["row","legs","ones"] (spD K 3 (cX C)):=by
  have nd:=sc_gate_value.nd
  refine F.ok sc_gate_value rfl rfl fun cdv A outer s H E hr=>?_
  exact (aF (aU (i:=3) nd rfl (Or.inl rfl) (QE.flat (aR (aA 0) (qp aG))))
      (aF (cZ (dS (cJ hr) (aA 3) (qp cT)) (aH (bB (qp (aN fF (aA 2) (aR (aA 0) (qp aG)))))) bO)
      (aF (cZ (dS (cJ hr) (aA 3) (qp cT)) (aH (bB (qp (aT C9 (aA 2) (aR (aA 1) (qp aG)))))) bO)
      (aF (cZ (dS (cJ hr) (aA 3) (qp cT)) (aH (bB (qp (aT sQ (aR (aA 1) (qp aG)) (aR (aA 1) (qp aG)))))) bO)
      (aF (cZ (dS (cJ hr) (aA 3) (qp cT)) (aH (bB (qp (aT oA (aR (aA 1) (qp aG)) (aR (aA 1) (qp aG)))))) bO)
      (aH (bB (qp (aT C9 (aR (aA 1) (qp aG)) (aR (aA 1) (qp aG)))))))))))
theorem sc_leg_wires:aS ["row"] ["row"] (aE dY):=⟨rfl,rfl,rfl,by decide +kernel,rfl,by decide +kernel,by decide +kernel⟩
theorem wQ   (F:FunD K "leg_wires" "leg_wires" dY fA fd) (z_list:mg "list" = none) :
    FnOk P w K mg base CX0 1 fA fd ["row"] (spD K 1 (cP C)):=by
  have nd:=sc_leg_wires.nd
  refine F.ok sc_leg_wires rfl rfl fun cdv A outer s H E hr=>?_
  exact (aF (cZ (dS (cJ hr) (aR (aA 0) (qp aG)) (qp cT)) (aH (bB (fE aJ))) bO)
      (aH (bB (qp (nP (by rfl) z_list (qp (oZ (aA 0) (kK (qp aG)) kL)))))))
theorem sc_leg_values:aS ["row","wire","values","ones","fault","legs"] ["row","wire","values","ones","fault"] (aE dG):=⟨rfl,rfl,rfl,by decide +kernel,rfl,by decide +kernel,by decide +kernel⟩
theorem uG   (F:FunD K "leg_values" "leg_values" dG fA fd) (c_leg_wires:aM P w K mg base "leg_wires" [] 1 1 (cP C)) :
    FnOk P w K mg base CX0 2 fA fd ["row","wire","values","ones","fault"] (spD K 5 (cM C)):=by
  have nd:=sc_leg_values.nd
  refine F.ok sc_leg_values rfl rfl fun cdv A outer s H E hr=>?_
  exact (aF (oK (i:=5) (fr:=[2]) rfl nd rfl (Or.inl rfl) (by rfl) (dA (m1:=true) (rs:=[]) (aV c_leg_wires (hr.mono (by decide)) (.cons NArgs.nil) rfl (aD (QE.more (aA 0) (by simp)) (aJ (m:=false) (rs:=[0]))))) (show List.Nodup (["source","values"]:List Str) from by decide +kernel) (by rfl) (fun _ _ _ _ _ _=>gQ) (fun _ _ _ _ _ _=>(QE.flat (aR (aA 1) (aA 0)))))
      (aF (cZ (QW.qt (jZ (rN (aA 4)) (jZ (dS (cJ hr) (aR (aA 4) (qp aG)) (qp cT)) (jJ (dS (cJ hr) (aR (aA 4) (qp aG)) (aA 1)))))) (aH (M0 5 (aR (aA 4) (qp aG)) (qp (aN fF (aA 3) (aR (aA 4) (qp aG)))))) bO)
      (aH (jK (i:=5)))))
theorem sc_on_wire:aS ["value","wire","ones","fault"] ["value","wire","ones","fault"] (aE fX):=⟨rfl,rfl,rfl,by decide +kernel,rfl,by decide +kernel,by decide +kernel⟩
theorem D0   (F:FunD K "on_wire" "on_wire" fX fA fd)  :
    FnOk P w K mg base CX0 1 fA fd ["value","wire","ones","fault"] (spD K 4 (dX C)):=by
  have nd:=sc_on_wire.nd
  refine F.ok sc_on_wire rfl rfl fun cdv A outer s H E hr=>?_
  exact (aF (cZ (QW.qt (jZ (rN (aA 3)) (jZ (dS (cJ hr) (aR (aA 3) (qp aG)) (qp cT)) (jJ (dS (cJ hr) (aR (aA 3) (qp aG)) (aA 1)))))) (aH (bB (qp (aN fF (aA 2) (aR (aA 3) (qp aG)))))) bO)
      (aH (bB (QE.flat (aA 0)))))
theorem sc_borne:aS ["circuit","starts","ones","fault","values","start","row","wire","legs"] ["circuit","starts","ones","fault"] (aE jI):=⟨rfl,rfl,rfl,by decide +kernel,rfl,by decide +kernel,by decide +kernel⟩
theorem Z0Q   (F:FunD K "borne" "borne" jI fA fd) (c_gate_value:aM P w K mg base "gate_value" [] 1 3 (cX C)) (c_leg_values:aM P w K mg base "leg_values" [] 2 5 (cM C)) (c_on_wire:aM P w K mg base "on_wire" [] 1 4 (dX C)) (z_len:mg "len" = none) (hC:Cls K C) (hA_rows:NoAttr K C "rows") :
    FnOk P w K mg base CX0 3 fA fd ["circuit","starts","ones","fault"] (spD K 4 (nS C)):=by
  have nd:=sc_borne.nd
  refine F.ok sc_borne rfl rfl fun cdv A outer s H E hr=>?_
  exact (aF (aU (i:=4) nd rfl (Or.inl rfl) (fE aJ))
      (aF (cL rfl PassesOwn.never (dA (aA 1)) (bX (i:=5) nd rfl (Or.inl rfl)) (aH (iH 4 (aV c_on_wire (hr.mono (by decide)) (.cons (.cons (.cons (.cons NArgs.nil)))) rfl (aD (QE.more (aA 5) (by simp)) (aD (QE.weak (qp (eF (by rfl) z_len (aA 4)))) (aD (QE.more (aA 2) (by simp)) (aD (QE.more (aA 3) (by simp)) (aJ (m:=false) (rs:=[5,2,3]))))))))))
      (aF (cL rfl PassesOwn.never (dA (gK hC hA_rows (aA 0))) (bX (i:=6) nd rfl (Or.inl rfl)) (aF (aU (i:=7) nd rfl (Or.inl rfl) (qp (eF (by rfl) z_len (aA 4))))
      (aF (aU (i:=8) nd rfl (Or.inl rfl) (aV c_leg_values (hr.mono (by decide)) (.cons (.cons (.cons (.cons (.cons NArgs.nil))))) rfl (aD (QE.more (aA 6) (by simp)) (aD (QE.more (aA 7) (by simp)) (aD (QE.more (aA 4) (by simp)) (aD (QE.more (aA 2) (by simp)) (aD (QE.more (aA 3) (by simp)) (aJ (m:=false) (rs:=[6,7,4,2,3])))))))))
      (aH (iH 4 (aV c_on_wire (hr.mono (by decide)) (.cons (.cons (.cons (.cons NArgs.nil)))) rfl (aD (QE.weak (aV c_gate_value (hr.mono (by decide)) (.cons (.cons (.cons NArgs.nil))) rfl (aD (QE.more (aA 6) (by simp)) (aD (QE.more (aA 8) (by simp)) (aD (QE.more (aA 2) (by simp)) (aJ (m:=false) (rs:=[6,8,2]))))))) (aD (QE.more (aA 7) (by simp)) (aD (QE.more (aA 2) (by simp)) (aD (QE.more (aA 3) (by simp)) (aJ (m:=false) (rs:=[7,2,3]))))))))))))
      (aH (jK (i:=4))))))
theorem sc_full_table:aS ["ins"] ["ins"] (aE dI):=⟨rfl,rfl,rfl,by decide +kernel,rfl,by decide +kernel,by decide +kernel⟩
theorem uI   (F:FunD K "full_table" "full_table" dI fA fd)  :
    FnOk P w K mg base CX0 1 fA fd ["ins"] (spD K 1 (dN C)):=by
  have nd:=sc_full_table.nd
  refine F.ok sc_full_table rfl rfl fun cdv A outer s H E hr=>?_
  exact (aH (bB (qp (aT dL (qp (aN fQ (qp aG) (qp (aN fQ (qp aG) (aA 0))))) (qp aG)))))
theorem sc_input_tables:aS ["ins","found","k","width"] ["ins"] (aE cH):=⟨rfl,rfl,rfl,by decide +kernel,rfl,by decide +kernel,by decide +kernel⟩
theorem rH   (F:FunD K "input_tables" "input_tables" cH fA fd) (c_full_table:aM P w K mg base "full_table" [] 1 1 (dN C)) (z_range:mg "range" = none) :
    FnOk P w K mg base CX0 2 fA fd ["ins"] (spD K 1 (eN C)):=by
  have nd:=sc_input_tables.nd
  refine F.ok sc_input_tables rfl rfl fun cdv A outer s H E hr=>?_
  exact (aF (aU (i:=1) nd rfl (Or.inl rfl) (fE aJ))
      (aF (cL rfl PassesOwn.never (dQ (rs:=[]) (by rfl) z_range (aD (QE.more (aA 0) (by simp)) (aJ (m:=false) (rs:=[0])))) (bX (i:=2) nd rfl (Or.inl rfl)) (aF (aU (i:=3) nd rfl (Or.inr rfl) (qp (aN fQ (qp aG) (aA 2))))
      (aF (oK (i:=1) (fr:=[3]) rfl nd rfl (Or.inl rfl) (by rfl) (dA (aA 1)) (show List.Nodup (["table","width"]:List Str) from by decide +kernel) (by rfl) (fun _ _ _ _ _ _=>gQ) (fun _ _ _ _ _ _=>(qp (aT oA (aA 0) (qp (aN fQ (aA 0) (aA 1)))))))
      (aH (iH 1 (qp (aN fQ (aV c_full_table (hr.mono (by decide)) (.cons NArgs.nil) rfl (aD (QE.more (aA 2) (by simp)) (aJ (m:=false) (rs:=[2])))) (aA 3))))))))
      (aH (jK (i:=1)))))
theorem sc_tables:aS ["circuit","fault"] ["circuit","fault"] (aE fH):=⟨rfl,rfl,rfl,by decide +kernel,rfl,by decide +kernel,by decide +kernel⟩
theorem U1   (F:FunD K "tables" "tables" fH fA fd) (c_borne:aM P w K mg base "borne" [] 3 4 (nS C)) (c_full_table:aM P w K mg base "full_table" [] 1 1 (dN C)) (c_input_tables:aM P w K mg base "input_tables" [] 2 1 (eN C)) (hC:Cls K C) (hA_ins:NoAttr K C "ins") :
    FnOk P w K mg base CX0 4 fA fd ["circuit","fault"] (spD K 2 (kB C)):=by
  have nd:=sc_tables.nd
  refine F.ok sc_tables rfl rfl fun cdv A outer s H E hr=>?_
  exact (aH (bB (aV c_borne (hr.mono (by decide)) (.cons (.cons (.cons (.cons NArgs.nil)))) rfl (aD (QE.more (aA 0) (by simp)) (aD (QE.weak (aV c_input_tables (hr.mono (by decide)) (.cons NArgs.nil) rfl (aD (QE.more (gK hC hA_ins (aA 0)) (by simp)) (aJ (m:=false) (rs:=[0]))))) (aD (QE.weak (aV c_full_table (hr.mono (by decide)) (.cons NArgs.nil) rfl (aD (QE.more (gK hC hA_ins (aA 0)) (by simp)) (aJ (m:=false) (rs:=[0]))))) (aD (QE.more (aA 1) (by simp)) (aJ (m:=false) (rs:=[0,1])))))))))
theorem sc_at_outs:aS ["circuit","values"] ["circuit","values"] (aE gD):=⟨rfl,rfl,rfl,by decide +kernel,rfl,by decide +kernel,by decide +kernel⟩
theorem D6   (F:FunD K "at_outs" "at_outs" gD fA fd) (hC:Cls K C) (hA_outs:NoAttr K C "outs") :
    FnOk P w K mg base CX0 1 fA fd ["circuit","values"] (spD K 2 (jT C)):=by
  have nd:=sc_at_outs.nd
  refine F.ok sc_at_outs rfl rfl fun cdv A outer s H E hr=>?_
  exact (aH (bB (iB (fr:=[1]) rfl (by rfl) (dA (gK hC hA_outs (aA 0))) (show List.Nodup (["out","values"]:List Str) from by decide +kernel) (by rfl) (fun _ _ _ _ _ _=>gQ) (fun _ _ _ _ _ _=>(QE.flat (aR (aA 1) (aA 0)))))))
theorem sc_out_tables:aS ["circuit","fault"] ["circuit","fault"] (aE cB):=⟨rfl,rfl,rfl,by decide +kernel,rfl,by decide +kernel,by decide +kernel⟩
theorem uF   (F:FunD K "out_tables" "out_tables" cB fA fd) (c_at_outs:aM P w K mg base "at_outs" [] 1 2 (jT C)) (c_tables:aM P w K mg base "tables" [] 4 2 (kB C)) :
    FnOk P w K mg base CX0 5 fA fd ["circuit","fault"] (spD K 2 (bY C)):=by
  have nd:=sc_out_tables.nd
  refine F.ok sc_out_tables rfl rfl fun cdv A outer s H E hr=>?_
  exact (aH (bB (aV c_at_outs (hr.mono (by decide)) (.cons (.cons NArgs.nil)) rfl (aD (QE.more (aA 0) (by simp)) (aD (QE.weak (aV c_tables (hr.mono (by decide)) (.cons (.cons NArgs.nil)) rfl (aD (QE.more (aA 0) (by simp)) (aD (QE.more (aA 1) (by simp)) (aJ (m:=false) (rs:=[0,1])))))) (aJ (m:=false) (rs:=[0])))))))
theorem sc_sources_of:aS ["circuit","wire"] ["circuit","wire"] (aE dF):=⟨rfl,rfl,rfl,by decide +kernel,rfl,by decide +kernel,by decide +kernel⟩
theorem uE   (F:FunD K "sources_of" "sources_of" dF fA fd) (c_leg_wires:aM P w K mg base "leg_wires" [] 1 1 (cP C)) (hC:Cls K C) (hA_ins:NoAttr K C "ins") (hA_rows:NoAttr K C "rows") :
    FnOk P w K mg base CX0 2 fA fd ["circuit","wire"] (spD K 2 (cE C)):=by
  have nd:=sc_sources_of.nd
  refine F.ok sc_sources_of rfl rfl fun cdv A outer s H E hr=>?_
  exact (aF (cZ (yO (aA 1) (gK hC hA_ins (aA 0))) (aH (bB (fE aJ))) bO)
      (aH (bB (aV c_leg_wires (hr.mono (by decide)) (.cons NArgs.nil) rfl (aD (QE.more (aR (gK hC hA_rows (aA 0)) (qp (aT dL (aA 1) (gK hC hA_ins (aA 0))))) (by simp)) (aJ (m:=false) (rs:=[0])))))))
theorem sc_needed:aS ["circuit","marked","out","wire","source"] ["circuit"] (aE hJ):=⟨rfl,rfl,rfl,by decide +kernel,rfl,by decide +kernel,by decide +kernel⟩
theorem U2   (F:FunD K "needed" "needed" hJ fA fd) (c_sources_of:aM P w K mg base "sources_of" [] 2 2 (cE C)) (z_len:mg "len" = none) (z_range:mg "range" = none) (z_sorted:mg "sorted" = none) (hC:Cls K C) (hA_ins:NoAttr K C "ins") (hA_outs:NoAttr K C "outs") (hA_rows:NoAttr K C "rows") :
    FnOk P w K mg base CX0 3 fA fd ["circuit"] (spD K 1 (lF C)):=by
  have nd:=sc_needed.nd
  refine F.ok sc_needed rfl rfl fun cdv A outer s H E hr=>?_
  exact (aF (aU (i:=1) nd rfl (Or.inl rfl) Z0t)
      (aF (cL rfl PassesOwn.never (dA (gK hC hA_outs (aA 0))) (bX (i:=2) nd rfl (Or.inl rfl)) (aH (M3 (gJ hr) 1 (aA 2) (qp qQ))))
      (aF (cL rfl PassesOwn.never (T0 (rs:=[]) (by rfl) z_range (aD (QE.weak (qp (aT dL (qp (aT gT (gK hC hA_ins (aA 0)) (qp (eF (by rfl) z_len (gK hC hA_rows (aA 0)))))) (qp aG)))) (aD (QE.weak (qp (aT dL (gK hC hA_ins (aA 0)) (qp aG)))) (aD (QE.weak (qp Z3K)) (aJ (m:=false) (rs:=[])))))) (bX (i:=3) nd rfl (Or.inl rfl)) (aH (cZ (Z3H (gJ hr) (aA 3) (aA 1)) (aH (cL rfl PassesOwn.never (dA (m1:=true) (rs:=[]) (aV c_sources_of (hr.mono (by decide)) (.cons (.cons NArgs.nil)) rfl (aD (QE.more (aA 0) (by simp)) (aD (QE.more (aA 3) (by simp)) (aJ (m:=false) (rs:=[0,3])))))) (bX (i:=4) nd rfl (Or.inl rfl)) (aH (M3 (gJ hr) 1 (aA 4) (qp qQ))))) bO)))
      (aH (bB (qp (Z0n rfl (by rfl) z_sorted (aA 1))))))))
theorem sc_bits_to_stick:aS ["circuit","wire"] ["circuit","wire"] (aE cC):=⟨rfl,rfl,rfl,by decide +kernel,rfl,by decide +kernel,by decide +kernel⟩
theorem pU   (F:FunD K "bits_to_stick" "bits_to_stick" cC fA fd) (hC:Cls K C) (hA_ins:NoAttr K C "ins") (hA_rows:NoAttr K C "rows") :
    FnOk P w K mg base CX0 1 fA fd ["circuit","wire"] (spD K 2 (bE C)):=by
  have nd:=sc_bits_to_stick.nd
  refine F.ok sc_bits_to_stick rfl rfl fun cdv A outer s H E hr=>?_
  exact (aF (cZ (QW.qt (jZ (Z0j (aA 1) (gK hC hA_ins (aA 0))) (jJ (dS (cJ hr) (aR (aR (gK hC hA_rows (aA 0)) (qp (aT dL (aA 1) (gK hC hA_ins (aA 0))))) (qp aG)) (qp cT))))) (aH (bB (fE (aD (qp (aT dL (qp aG) (aR (aR (gK hC hA_rows (aA 0)) (qp (aT dL (aA 1) (gK hC hA_ins (aA 0))))) (qp aG)))) aJ)))) bO)
      (aH (bB (fE (aD (qp aG) (aD (qp aG) aJ))))))
theorem sc_all_faults:aS ["circuit","faults","wire","bit","leg","source"] ["circuit"] (aE dJ):=⟨rfl,rfl,rfl,by decide +kernel,rfl,by decide +kernel,by decide +kernel⟩
theorem uJ   (F:FunD K "all_faults" "all_faults" dJ fA fd) (c_bits_to_stick:aM P w K mg base "bits_to_stick" [] 1 2 (bE C)) (c_needed:aM P w K mg base "needed" [] 3 1 (lF C)) (c_sources_of:aM P w K mg base "sources_of" [] 2 2 (cE C)) (z_enumerate:mg "enumerate" = none) :
    FnOk P w K mg base CX0 4 fA fd ["circuit"] (spD K 1 (cY C)):=by
  have nd:=sc_all_faults.nd
  refine F.ok sc_all_faults rfl rfl fun cdv A outer s H E hr=>?_
  exact (aF (aU (i:=1) nd rfl (Or.inl rfl) (fE aJ))
      (aF (cL rfl PassesOwn.never (dA (m1:=true) (rs:=[]) (aV c_needed (hr.mono (by decide)) (.cons NArgs.nil) rfl (aD (QE.more (aA 0) (by simp)) (aJ (m:=false) (rs:=[0]))))) (bX (i:=2) nd rfl (Or.inl rfl)) (aF (cL rfl PassesOwn.never (dA (m1:=true) (rs:=[]) (aV c_bits_to_stick (hr.mono (by decide)) (.cons (.cons NArgs.nil)) rfl (aD (QE.more (aA 0) (by simp)) (aD (QE.more (aA 2) (by simp)) (aJ (m:=false) (rs:=[0,2])))))) (bX (i:=3) nd rfl (Or.inl rfl)) (aH (iH 1 (kQ (aD (qp cT) (aD (QE.flat (aA 2)) (aD (QE.flat (aA 3)) aJ)))))))
      (aH (cL rfl PassesOwn.never (Z2b (m1:=true) (rs:=[]) (by rfl) z_enumerate (aD (aV c_sources_of (hr.mono (by decide)) (.cons (.cons NArgs.nil)) rfl (aD (QE.more (aA 0) (by simp)) (aD (QE.more (aA 2) (by simp)) (aJ (m:=false) (rs:=[0,2]))))) aJ)) (C5 (is:=[4,5]) rfl (gL (fN (i:=4) nd rfl (Or.inl rfl)) (gL (fN (i:=5) nd rfl (Or.inl rfl)) rP)) rfl) (aH (cL rfl PassesOwn.never (dA (m1:=true) (rs:=[]) (aV c_bits_to_stick (hr.mono (by decide)) (.cons (.cons NArgs.nil)) rfl (aD (QE.more (aA 0) (by simp)) (aD (QE.more (aA 5) (by simp)) (aJ (m:=false) (rs:=[0,5])))))) (bX (i:=3) nd rfl (Or.inl rfl)) (aH (iH 1 (kQ (aD (qp cT) (aD (QE.flat (aA 2)) (aD (QE.flat (aA 4)) (aD (QE.flat (aA 3)) aJ)))))))))))))
      (aH (jK (i:=1)))))
theorem sc_differing:aS ["one_tables","other_tables","found","one","other"] ["one_tables","other_tables"] (aE eE):=⟨rfl,rfl,rfl,by decide +kernel,rfl,by decide +kernel,by decide +kernel⟩
theorem wU   (F:FunD K "differing" "differing" eE fA fd) (z_zip:mg "zip" = none) :
    FnOk P w K mg base CX0 1 fA fd ["one_tables","other_tables"] (spD K 2 (hE C)):=by
  have nd:=sc_differing.nd
  refine F.ok sc_differing rfl rfl fun cdv A outer s H E hr=>?_
  exact (aF (aU (i:=2) nd rfl (Or.inl rfl) (qp aG))
      (aF (cL rfl PassesOwn.never (C4 (rs:=[0,1]) (by rfl) z_zip (aD (QE.more (aA 0) (by simp)) (aD (QE.more (aA 1) (by simp)) (aJ (m:=false) (rs:=[0,1]))))) (C5 (is:=[3,4]) rfl (gL (fN (i:=3) nd rfl (Or.inl rfl)) (gL (fN (i:=4) nd rfl (Or.inl rfl)) rP)) rfl) (aH (aU (i:=2) nd rfl (Or.inl rfl) (qp (aT oA (aA 2) (qp (aT C9 (aA 3) (aA 4))))))))
      (aH (bB (QE.flat (aA 2))))))
theorem sc_tellings:aS ["circuit","faults","good"] ["circuit","faults"] (aE eS):=⟨rfl,rfl,rfl,by decide +kernel,rfl,by decide +kernel,by decide +kernel⟩
theorem yR   (F:FunD K "tellings" "tellings" eS fA fd) (c_differing:aM P w K mg base "differing" [] 1 2 (hE C)) (c_out_tables_d:aM P w K mg base "out_tables" [.non] 5 2 (bY C)) (c_out_tables:aM P w K mg base "out_tables" [] 5 2 (bY C)) :
    FnOk P w K mg base CX0 6 fA fd ["circuit","faults"] (spD K 2 (fT C)):=by
  have nd:=sc_tellings.nd
  refine F.ok sc_tellings rfl rfl fun cdv A outer s H E hr=>?_
  exact (aF (aU (i:=2) nd rfl (Or.inr rfl) (aV c_out_tables_d (hr.mono (by decide)) (.cons NArgs.nil) rfl (aD (QE.more (aA 0) (by simp)) (aJ (m:=false) (rs:=[0])))))
      (aH (bB (iB (fr:=[2,0]) rfl (by rfl) (dA (aA 1)) (show List.Nodup (["fault","good","circuit"]:List Str) from by decide +kernel) (by rfl) (fun _ _ _ _ _ _=>gQ) (fun _ _ _ _ _ _=>(aV c_differing (hr.mono (by decide)) (.cons (.cons NArgs.nil)) rfl (aD (QE.more (aA 1) (by simp)) (aD (QE.weak (aV c_out_tables (hr.mono (by decide)) (.cons (.cons NArgs.nil)) rfl (aD (QE.more (aA 2) (by simp)) (aD (QE.more (aA 0) (by simp)) (aJ (m:=false) (rs:=[2,0])))))) (aJ (m:=false) (rs:=[1]))))))))))
theorem sc_groups:aS ["circuit","found","fault"] ["circuit"] (aE hX):=⟨rfl,rfl,rfl,by decide +kernel,rfl,by decide +kernel,by decide +kernel⟩
theorem U5   (F:FunD K "groups" "groups" hX fA fd) (c_all_faults:aM P w K mg base "all_faults" [] 4 1 (cY C)) (c_out_tables:aM P w K mg base "out_tables" [] 5 2 (bY C)) (z_list:mg "list" = none) (z_tuple:mg "tuple" = none) :
    FnOk P w K mg base CX0 6 fA fd ["circuit"] (spD K 1 (kC C)):=by
  have nd:=sc_groups.nd
  refine F.ok sc_groups rfl rfl fun cdv A outer s H E hr=>?_
  exact (aF (aU (i:=1) nd rfl (Or.inl rfl) sK)
      (aF (cL rfl PassesOwn.never (dA (m1:=true) (rs:=[]) (aV c_all_faults (hr.mono (by decide)) (.cons NArgs.nil) rfl (aD (QE.more (aA 0) (by simp)) (aJ (m:=false) (rs:=[0]))))) (bX (i:=2) nd rfl (Or.inl rfl)) (aH (S6 1 2 (gJ hr) (by rfl) z_tuple (aV c_out_tables (hr.mono (by decide)) (.cons (.cons NArgs.nil)) rfl (aD (QE.more (aA 0) (by simp)) (aD (QE.more (aA 2) (by simp)) (aJ (m:=false) (rs:=[0,2]))))))))
      (aH (C3 (i:=1) rfl (by rfl) z_list))))
theorem sc_idle:aS ["circuit","faults"] ["circuit"] (aE lU):=⟨rfl,rfl,rfl,by decide +kernel,rfl,by decide +kernel,by decide +kernel⟩
theorem Z2x   (F:FunD K "idle" "idle" lU fA fd) (c_all_faults:aM P w K mg base "all_faults" [] 4 1 (cY C)) (c_tellings:aM P w K mg base "tellings" [] 6 2 (fT C)) (z_zip:mg "zip" = none) :
    FnOk P w K mg base CX0 7 fA fd ["circuit"] (spD K 1 (pW C)):=by
  have nd:=sc_idle.nd
  refine F.ok sc_idle rfl rfl fun cdv A outer s H E hr=>?_
  exact (aF (aU (i:=1) nd rfl (Or.inl rfl) (aV c_all_faults (hr.mono (by decide)) (.cons NArgs.nil) rfl (aD (QE.more (aA 0) (by simp)) (aJ (m:=false) (rs:=[0])))))
      (aH (bB (yQ (fr:=[]) rfl (by rfl) (C4 (rs:=[1]) (by rfl) z_zip (aD (QE.more (aA 1) (by simp)) (aD (QE.weak (aV c_tellings (hr.mono (by decide)) (.cons (.cons NArgs.nil)) rfl (aD (QE.more (aA 0) (by simp)) (aD (QE.more (aA 1) (by simp)) (aJ (m:=false) (rs:=[0,1])))))) (aJ (m:=false) (rs:=[1]))))) (show List.Nodup (["fault","told"]:List Str) from by decide +kernel) (by rfl) (by rfl) (fun _ _ _ _ _ _=>nN (dS (cJ hr) (aA 1) (qp aG))) (fun _ _ _ _ _ _=>(QE.flat (aA 0)))))))
theorem sc_covers:aS ["one_told","other_told"] ["one_told","other_told"] (aE hZ):=⟨rfl,rfl,rfl,by decide +kernel,rfl,by decide +kernel,by decide +kernel⟩
theorem U6   (F:FunD K "covers" "covers" hZ fA fd)  :
    FnOk P w K mg base CX0 1 fA fd ["one_told","other_told"] (spD K 2 (iX C)):=by
  have nd:=sc_covers.nd
  refine F.ok sc_covers rfl rfl fun cdv A outer s H E hr=>?_
  exact (aH (bB (qp (Z0u (qp (Z4V (cJ hr) (aA 1) (qp aG))) (Z0q (qp (yP (cJ hr) (qp (aT oA (aA 0) (aA 1))) (aA 0))))))))
theorem sc_is_least:aS ["told","every_told"] ["told","every_told"] (aE eY):=⟨rfl,rfl,rfl,by decide +kernel,rfl,by decide +kernel,by decide +kernel⟩
theorem yV   (F:FunD K "is_least" "is_least" eY fA fd) (c_covers:aM P w K mg base "covers" [] 1 2 (iX C)) (z_all:mg "all" = none) :
    FnOk P w K mg base CX0 2 fA fd ["told","every_told"] (spD K 2 (fV C)):=by
  have nd:=sc_is_least.nd
  refine F.ok sc_is_least rfl rfl fun cdv A outer s H E hr=>?_
  exact (aF (cZ (dS (cJ hr) (aA 0) (qp aG)) (aH (bB (qp qQ))) bO)
      (aH (bB (qp (Z3M rfl (by rfl) z_all (iB (fr:=[0]) rfl (by rfl) (dA (aA 1)) (show List.Nodup (["other","told"]:List Str) from by decide +kernel) (by rfl) (fun _ _ _ _ _ _=>nN (Z0h (aV c_covers (hr.mono (by decide)) (.cons (.cons NArgs.nil)) rfl (aD (QE.more (aA 1) (by simp)) (aD (QE.more (aA 0) (by simp)) (aJ (m:=false) (rs:=[1,0]))))))) (fun _ _ _ _ _ _=>(qp (yP (cJ hr) (aA 0) (aA 1))))))))))
theorem sc_hard:aS ["circuit","faults","every_told"] ["circuit"] (aE lV):=⟨rfl,rfl,rfl,by decide +kernel,rfl,by decide +kernel,by decide +kernel⟩
theorem Z2y   (F:FunD K "hard" "hard" lV fA fd) (c_all_faults:aM P w K mg base "all_faults" [] 4 1 (cY C)) (c_is_least:aM P w K mg base "is_least" [] 2 2 (fV C)) (c_tellings:aM P w K mg base "tellings" [] 6 2 (fT C)) (z_zip:mg "zip" = none) :
    FnOk P w K mg base CX0 7 fA fd ["circuit"] (spD K 1 (pX C)):=by
  have nd:=sc_hard.nd
  refine F.ok sc_hard rfl rfl fun cdv A outer s H E hr=>?_
  exact (aF (aU (i:=1) nd rfl (Or.inl rfl) (aV c_all_faults (hr.mono (by decide)) (.cons NArgs.nil) rfl (aD (QE.more (aA 0) (by simp)) (aJ (m:=false) (rs:=[0])))))
      (aF (aU (i:=2) nd rfl (Or.inr rfl) (aV c_tellings (hr.mono (by decide)) (.cons (.cons NArgs.nil)) rfl (aD (QE.more (aA 0) (by simp)) (aD (QE.more (aA 1) (by simp)) (aJ (m:=false) (rs:=[0,1]))))))
      (aH (bB (yQ (fr:=[2]) rfl (by rfl) (C4 (rs:=[1,2]) (by rfl) z_zip (aD (QE.more (aA 1) (by simp)) (aD (QE.more (aA 2) (by simp)) (aJ (m:=false) (rs:=[1,2]))))) (show List.Nodup (["fault","told","every_told"]:List Str) from by decide +kernel) (by rfl) (by rfl) (fun _ _ _ _ _ _=>nN (Z0h (aV c_is_least (hr.mono (by decide)) (.cons (.cons NArgs.nil)) rfl (aD (QE.more (aA 1) (by simp)) (aD (QE.more (aA 2) (by simp)) (aJ (m:=false) (rs:=[1,2]))))))) (fun _ _ _ _ _ _=>(QE.flat (aA 0))))))))
theorem sc_l_at:aS ["_law_script","_law_k"] ["_law_script","_law_k"] (aE lT):=⟨rfl,rfl,rfl,by decide +kernel,rfl,by decide +kernel,by decide +kernel⟩
theorem Z2w   (F:FunD K "_law_at" "_law_at" lT fA fd) (z_len:mg "len" = none) :
    FnOk P w K mg base CX0 1 fA fd ["_law_script","_law_k"] (spD K 2 (jB C)):=by
  have nd:=sc_l_at.nd
  refine F.ok sc_l_at rfl rfl fun cdv A outer s H E hr=>?_
  exact (aF (cZ (yO (aA 1) (qp (eF (by rfl) z_len (aA 0)))) (aH (bB (QE.flat (aR (aA 0) (aA 1))))) bO)
      (aH (bB (qp aG))))
theorem sc_l_mixed:aS ["_law_cell","_law_k","_law_number"] ["_law_cell","_law_k"] (aE fZ):=⟨rfl,rfl,rfl,by decide +kernel,rfl,by decide +kernel,by decide +kernel⟩
theorem D2   (F:FunD K "_law_mixed" "_law_mixed" fZ fA fd)  :
    FnOk P w K mg base CX0 1 fA fd ["_law_cell","_law_k"] (spD K 2 (fK C)):=by
  have nd:=sc_l_mixed.nd
  refine F.ok sc_l_mixed rfl rfl fun cdv A outer s H E hr=>?_
  exact (aF (cZ (Z0j (aA 0) (qp (aN Z0K (qp aG) (qp aG)))) (aH (bB (qp (aN cU (qp (aN fI (qp (aT dL (aA 0) (qp (aN Z0K (qp aG) (qp aG))))) (qp (aN fQ (qp aG) (qp (aN fF (qp aG) (qp (aN cU (aA 1) (qp aG))))))))) (qp (aN fQ (qp aG) (qp aG))))))) bO)
      (aF (aU (i:=2) nd rfl (Or.inl rfl) (qp (aN cU (qp (aT gT (qp (aT gT (qp (aN fF (aA 0) (qp aG))) (qp (aN fF (qp (aN fF (qp aG) (aA 1))) (aA 1))))) (aA 1))) (qp aG))))
      (aF (aU (i:=2) nd rfl (Or.inl rfl) (qp (aN cU (qp (aN fF (aA 2) (aA 2))) (qp aG))))
      (aH (bB (qp (aN cU (qp (aN fF (aA 2) (qp aG))) (qp aG))))))))
theorem sc_l_folds:aS ["_law_script","_law_many","_law_found","_law_some","_law_k","_law_at_here","_law_left"] ["_law_script","_law_many"] (aE gB):=⟨rfl,rfl,rfl,by decide +kernel,rfl,by decide +kernel,by decide +kernel⟩
theorem D4   (F:FunD K "_law_folds" "_law_folds" gB fA fd) (c_l_mixed:aM P w K mg base "_law_mixed" [] 1 2 (fK C)) (z_len:mg "len" = none) (z_range:mg "range" = none) :
    FnOk P w K mg base CX0 2 fA fd ["_law_script","_law_many"] (spD K 2 (jR C)):=by
  have nd:=sc_l_folds.nd
  refine F.ok sc_l_folds rfl rfl fun cdv A outer s H E hr=>?_
  exact (aF (oK (i:=2) (fr:=[]) rfl nd rfl (Or.inl rfl) (by rfl) (dQ (rs:=[]) (by rfl) z_range (aD (QE.more (aA 1) (by simp)) (aJ (m:=false) (rs:=[1])))) (show List.Nodup (["_law_k"]:List Str) from by decide +kernel) (by rfl) (fun _ _ _ _ _ _=>gQ) (fun _ _ _ _ _ _=>(qp (aT gT (qp (aN fF (aA 0) (aA 0))) (qp aG)))))
      (aF (aU (i:=3) nd rfl (Or.inl rfl) (qp (oZ (aA 0) kL (kK (qp aG)))))
      (aF (cL rfl PassesOwn.never (T1 (rs:=[]) (by rfl) z_range (aD (QE.weak (qp aG)) (aD (QE.weak (qp (eF (by rfl) z_len (aA 3)))) (aJ (m:=false) (rs:=[]))))) (bX (i:=4) nd rfl (Or.inl rfl)) (aF (aU (i:=5) nd rfl (Or.inl rfl) (qp (aN cU (aA 4) (aA 1))))
      (aF (aU (i:=6) nd rfl (Or.inl rfl) (qp (aT gT (qp (aN fF (aR (aA 2) (aA 5)) (qp aG))) (aV c_l_mixed (hr.mono (by decide)) (.cons (.cons NArgs.nil)) rfl (aD (QE.more (aR (aA 3) (aA 4)) (by simp)) (aD (QE.more (aA 4) (by simp)) (aJ (m:=false) (rs:=[3,4]))))))))
      (aH (M0 2 (aA 5) (qp (aN cU (aA 6) (qp aG))))))))
      (aH (jK (i:=2))))))
theorem sc_l_rows:aS ["_law_ins","_law_numbers","_law_rows_here","_law_number","_law_at_here","_law_one","_law_two"] ["_law_ins","_law_numbers"] (aE hU):=⟨rfl,rfl,rfl,by decide +kernel,rfl,by decide +kernel,by decide +kernel⟩
theorem U3   (F:FunD K "_law_rows" "_law_rows" hU fA fd) (z_len:mg "len" = none) (z_max:mg "max" = none) (z_min:mg "min" = none) :
    FnOk P w K mg base CX0 1 fA fd ["_law_ins","_law_numbers"] (spD K 2 (lG C)):=by
  have nd:=sc_l_rows.nd
  refine F.ok sc_l_rows rfl rfl fun cdv A outer s H E hr=>?_
  exact (aF (aU (i:=2) nd rfl (Or.inl rfl) (fE aJ))
      (aF (cL rfl PassesOwn.never (dA (aA 1)) (bX (i:=3) nd rfl (Or.inl rfl)) (aF (aU (i:=4) nd rfl (Or.inl rfl) (qp (aT gT (aA 0) (qp (eF (by rfl) z_len (aA 2))))))
      (aF (aU (i:=5) nd rfl (Or.inl rfl) (qp (aT dL (qp (aT dL (aA 4) (qp aG))) (qp (aN cU (qp (aN fI (aA 3) (qp aG))) (qp (Z0s rfl (by rfl) z_max (aD (QE.weak (qp aG)) (aD (QE.weak (qp (Z3L rfl (by rfl) z_min (aD (QE.more (aA 4) (by simp)) (aD (QE.weak (qp aG)) (aJ (m:=false) (rs:=[4]))))))) (aJ (m:=false) (rs:=[])))))))))))
      (aF (aU (i:=6) nd rfl (Or.inl rfl) (qp (aT dL (qp (aT dL (aA 4) (qp aG))) (qp (aN cU (qp (aN fI (aA 3) (qp aG))) (qp (Z0s rfl (by rfl) z_max (aD (QE.weak (qp aG)) (aD (QE.more (aA 4) (by simp)) (aJ (m:=false) (rs:=[4])))))))))))
      (aH (cZ (QW.qt (yN (dS (cJ hr) (aA 4) (qp aG)) (wL (dS (cJ hr) (qp (aN cU (aA 3) (qp aG))) (qp aG))))) (aH (iH 2 (kQ (aD (qp cT) (aD (qp (aN cU (qp (aN fI (aA 3) (qp aG))) (qp aG))) aJ))))) (aH (cZ (yO (qp (aN cU (aA 3) (qp aG))) (qp aG)) (aH (iH 2 (kQ (aD (qp cT) (aD (QE.flat (aA 5)) aJ))))) (aH (iH 2 (kQ (aD (QE.flat (aR (QE.weak (rs:=[]) (fE (aD (qp cT) (aD (qp cT) (aD (qp cT) (aD (qp cT) aJ)))))) (qp (aN cU (aA 3) (qp aG))))) (aD (QE.flat (aA 5)) (aD (QE.flat (aA 6)) aJ))))))))))))))
      (aH (jK (i:=2)))))
theorem sc_l_outs:aS ["_law_all_wires","_law_number","_law_outs_here","_law_k"] ["_law_all_wires","_law_number"] (aE hV):=⟨rfl,rfl,rfl,by decide +kernel,rfl,by decide +kernel,by decide +kernel⟩
theorem U4   (F:FunD K "_law_outs" "_law_outs" hV fA fd) (z_len:mg "len" = none) (z_range:mg "range" = none) :
    FnOk P w K mg base CX0 1 fA fd ["_law_all_wires","_law_number"] (spD K 2 (lH C)):=by
  have nd:=sc_l_outs.nd
  refine F.ok sc_l_outs rfl rfl fun cdv A outer s H E hr=>?_
  exact (aF (aU (i:=2) nd rfl (Or.inl rfl) (fE (aD (qp (aT dL (aA 0) (qp aG))) aJ)))
      (aF (cL rfl PassesOwn.never (dQ (rs:=[]) (by rfl) z_range (aD (QE.weak (qp (aN cU (aA 1) (qp aG)))) (aJ (m:=false) (rs:=[])))) (bX (i:=3) nd rfl (Or.inl rfl)) (aH (iH 2 (qp (aN cU (qp (aN fI (aA 1) (qp (aT gT (aA 3) (qp aG))))) (aA 0))))))
      (aF (cZ (dS (cJ hr) (qp (aN cU (qp (aN fI (aA 1) (qp aG))) (qp aG))) (qp aG)) (aH (nO 2 2 nd rfl (Or.inl rfl) (iB (fr:=[0,1]) rfl (by rfl) (dQ (rs:=[]) (by rfl) z_range (aD (QE.weak (qp (aT dL (qp aG) (qp (eF (by rfl) z_len (aA 2)))))) (aJ (m:=false) (rs:=[])))) (show List.Nodup (["_law_k","_law_all_wires","_law_number"]:List Str) from by decide +kernel) (by rfl) (fun _ _ _ _ _ _=>gQ) (fun _ _ _ _ _ _=>(qp (aN cU (qp (aN fF (aA 0) (aA 2))) (aA 1))))))) bO)
      (aF (cZ (dS (cJ hr) (qp (aN cU (qp (aN fI (aA 1) (qp aG))) (qp aG))) (qp aG)) (aH (aU (i:=2) nd rfl (Or.inl rfl) (qp (Z0p (aA 2))))) bO)
      (aH (jK (i:=2)))))))
theorem sc_l_input:aS ["_law_ins","_law_k","_law_total","_law_given"] ["_law_ins","_law_k"] (aE gA):=⟨rfl,rfl,rfl,by decide +kernel,rfl,by decide +kernel,by decide +kernel⟩
theorem D3   (F:FunD K "_law_input" "_law_input" gA fA fd) (z_range:mg "range" = none) :
    FnOk P w K mg base CX0 1 fA fd ["_law_ins","_law_k"] (spD K 2 (gY C)):=by
  have nd:=sc_l_input.nd
  refine F.ok sc_l_input rfl rfl fun cdv A outer s H E hr=>?_
  exact (aF (aU (i:=2) nd rfl (Or.inl rfl) (qp aG))
      (aF (cL rfl PassesOwn.never (dQ (rs:=[]) (by rfl) z_range (aD (QE.weak (qp (aN fQ (qp aG) (aA 0)))) (aJ (m:=false) (rs:=[])))) (bX (i:=3) nd rfl (Or.inl rfl)) (aH (cZ (dS (cJ hr) (qp (aN cU (qp (aN fI (aA 3) (qp (aN fQ (qp aG) (aA 1))))) (qp aG))) (qp aG)) (aH (aU (i:=2) nd rfl (Or.inl rfl) (qp (aT gT (aA 2) (qp (aN fQ (qp aG) (aA 3))))))) bO)))
      (aH (bB (QE.flat (aA 2))))))
theorem sc_l_drawn:aS ["_law_script","_law_first","_law_ins","_law_folds_here","_law_rows_here","_law_outs_here"] ["_law_script"] (aE gC):=⟨rfl,rfl,rfl,by decide +kernel,rfl,by decide +kernel,by decide +kernel⟩
theorem D5   (F:FunD K "_law_drawn" "_law_drawn" gC fA fd) (c_l_at:aM P w K mg base "_law_at" [] 1 2 (jB C)) (c_l_folds:aM P w K mg base "_law_folds" [] 2 2 (jR C)) (c_l_input:aM P w K mg base "_law_input" [] 1 2 (gY C)) (c_l_outs:aM P w K mg base "_law_outs" [] 1 2 (lH C)) (c_l_rows:aM P w K mg base "_law_rows" [] 1 2 (lG C)) (z_int:mg "int" = none) (z_len:mg "len" = none) (z_range:mg "range" = none) :
    FnOk P w K mg base CX0 3 fA fd ["_law_script"] (spD K 1 (jS C)):=by
  have nd:=sc_l_drawn.nd
  refine F.ok sc_l_drawn rfl rfl fun cdv A outer s H E hr=>?_
  exact (aF (aU (i:=1) nd rfl (Or.inl rfl) (aV c_l_at (hr.mono (by decide)) (.cons (.cons NArgs.nil)) rfl (aD (QE.more (aA 0) (by simp)) (aD (QE.weak (qp aG)) (aJ (m:=false) (rs:=[0]))))))
      (aF (aU (i:=2) nd rfl (Or.inr rfl) (QE.flat (aR (QE.weak (rs:=[]) (fE (aD (qp (aN cU (aA 1) (qp aG))) (aD (qp (aN cU (qp (aN fI (aA 1) (qp aG))) (qp aG))) aJ)))) (qp (M5 (by rfl) z_int (qp (yP (cJ hr) (qp (aN cU (qp (aN fI (aA 1) (qp aG))) (qp aG))) (qp aG))))))))
      (aF (aU (i:=3) nd rfl (Or.inl rfl) (aV c_l_folds (hr.mono (by decide)) (.cons (.cons NArgs.nil)) rfl (aD (QE.more (aA 0) (by simp)) (aD (QE.weak (qp aG)) (aJ (m:=false) (rs:=[0]))))))
      (aF (aU (i:=4) nd rfl (Or.inl rfl) (aV c_l_rows (hr.mono (by decide)) (.cons (.cons NArgs.nil)) rfl (aD (QE.more (aA 2) (by simp)) (aD (QE.weak (qp (oZ (aA 3) kL (kK (qp (aN cU (aV c_l_at (hr.mono (by decide)) (.cons (.cons NArgs.nil)) rfl (aD (QE.more (aA 0) (by simp)) (aD (QE.weak (qp aG)) (aJ (m:=false) (rs:=[0]))))) (qp aG))))))) (aJ (m:=false) (rs:=[2]))))))
      (aF (cZ (dS (cJ hr) (qp (aT gT (aA 2) (qp (eF (by rfl) z_len (aA 4))))) (qp aG)) (aH (aU (i:=4) nd rfl (Or.inl rfl) (fE (aD (kQ (aD (qp cT) (aD (qp (aN cU (qp (aN fI (aA 1) (qp aG))) (qp aG))) aJ))) aJ)))) bO)
      (aF (aU (i:=5) nd rfl (Or.inl rfl) (aV c_l_outs (hr.mono (by decide)) (.cons (.cons NArgs.nil)) rfl (aD (QE.weak (qp (aT gT (aA 2) (qp (eF (by rfl) z_len (aA 4)))))) (aD (QE.more (aR (aA 3) (qp aG)) (by simp)) (aJ (m:=false) (rs:=[3]))))))
      (aH (Z27 (wN 2 (wN 4 (wN 5 (Z29 (iB (fr:=[2]) rfl (by rfl) (dQ (rs:=[]) (by rfl) z_range (aD (QE.more (aA 2) (by simp)) (aJ (m:=false) (rs:=[2])))) (show List.Nodup (["_law_k","_law_ins"]:List Str) from by decide +kernel) (by rfl) (fun _ _ _ _ _ _=>gQ) (fun _ _ _ _ _ _=>(aV c_l_input (hr.mono (by decide)) (.cons (.cons NArgs.nil)) rfl (aD (QE.more (aA 1) (by simp)) (aD (QE.more (aA 0) (by simp)) (aJ (m:=false) (rs:=[1,0]))))))) Z28))))))))))))
theorem sc_l_leg:aS ["_law_seen","_law_row","_law_leg_here","_law_fault","_law_wire","_law_most"] ["_law_seen","_law_row","_law_leg_here","_law_fault","_law_wire","_law_most"] (aE jH):=⟨rfl,rfl,rfl,by decide +kernel,rfl,by decide +kernel,by decide +kernel⟩
theorem Z0P   (F:FunD K "_law_leg" "_law_leg" jH fA fd)  :
    FnOk P w K mg base CX0 1 fA fd ["_law_seen","_law_row","_law_leg_here","_law_fault","_law_wire","_law_most"] (spD K 6 (mD C)):=by
  have nd:=sc_l_leg.nd
  refine F.ok sc_l_leg rfl rfl fun cdv A outer s H E hr=>?_
  exact (aF (cZ (QW.qt (jZ (rN (aA 3)) (jJ (dS (cJ hr) (qp (vE (aA 3) kL (kK (qp aG)))) (kQ (aD (QE.weak (qp cT)) (aD (QE.more (aA 4) (by simp)) (aD (QE.more (aA 2) (by simp)) (aJ (m:=false) (rs:=[4,2])))))))))) (aH (bB (qp (aN fF (aA 5) (aR (aA 3) (qp aG)))))) bO)
      (aH (bB (QE.flat (aR (aA 0) (aR (aA 1) (qp (aT gT (aA 2) (qp aG)))))))))
theorem sc_l_row_table:aS ["_law_seen","_law_row","_law_fault","_law_wire","_law_most","_law_one","_law_two"] ["_law_seen","_law_row","_law_fault","_law_wire","_law_most"] (aE cV):=⟨rfl,rfl,rfl,by decide +kernel,rfl,by decide +kernel,by decide +kernel⟩
theorem sR   (F:FunD K "_law_row_table" "_law_row_table" cV fA fd) (c_l_leg:aM P w K mg base "_law_leg" [] 1 6 (mD C)) :
    FnOk P w K mg base CX0 2 fA fd ["_law_seen","_law_row","_law_fault","_law_wire","_law_most"] (spD K 5 (cW C)):=by
  have nd:=sc_l_row_table.nd
  refine F.ok sc_l_row_table rfl rfl fun cdv A outer s H E hr=>?_
  exact (aF (cZ (dS (cJ hr) (aR (aA 1) (qp aG)) (qp cT)) (aH (bB (qp (aN fF (aA 4) (aR (aA 1) (qp aG)))))) bO)
      (aF (aU (i:=5) nd rfl (Or.inl rfl) (aV c_l_leg (hr.mono (by decide)) (.cons (.cons (.cons (.cons (.cons (.cons NArgs.nil)))))) rfl (aD (QE.more (aA 0) (by simp)) (aD (QE.more (aA 1) (by simp)) (aD (QE.weak (qp aG)) (aD (QE.more (aA 2) (by simp)) (aD (QE.more (aA 3) (by simp)) (aD (QE.more (aA 4) (by simp)) (aJ (m:=false) (rs:=[0,1,2,3,4]))))))))))
      (aF (cZ (dS (cJ hr) (aR (aA 1) (qp aG)) (qp cT)) (aH (bB (qp (aT dL (aA 4) (aA 5))))) bO)
      (aF (aU (i:=6) nd rfl (Or.inl rfl) (aV c_l_leg (hr.mono (by decide)) (.cons (.cons (.cons (.cons (.cons (.cons NArgs.nil)))))) rfl (aD (QE.more (aA 0) (by simp)) (aD (QE.more (aA 1) (by simp)) (aD (QE.weak (qp aG)) (aD (QE.more (aA 2) (by simp)) (aD (QE.more (aA 3) (by simp)) (aD (QE.more (aA 4) (by simp)) (aJ (m:=false) (rs:=[0,1,2,3,4]))))))))))
      (aF (cZ (dS (cJ hr) (aR (aA 1) (qp aG)) (qp cT)) (aH (bB (qp (aT sQ (aA 5) (aA 6))))) bO)
      (aF (cZ (dS (cJ hr) (aR (aA 1) (qp aG)) (qp cT)) (aH (bB (qp (aT oA (aA 5) (aA 6))))) bO)
      (aH (bB (qp (aT dL (qp (aT oA (aA 5) (aA 6))) (qp (aT sQ (aA 5) (aA 6)))))))))))))
theorem sc_l_wires:aS ["_law_drawn_here","_law_fault","_law_ins","_law_rows_here","_law_outs_here","_law_inputs","_law_most","_law_seen","_law_wire"] ["_law_drawn_here","_law_fault"] (aE fY):=⟨rfl,rfl,rfl,by decide +kernel,rfl,by decide +kernel,by decide +kernel⟩
theorem D1   (F:FunD K "_law_wires" "_law_wires" fY fA fd) (c_l_row_table:aM P w K mg base "_law_row_table" [] 2 5 (cW C)) (z_len:mg "len" = none) (z_range:mg "range" = none) :
    FnOk P w K mg base CX0 3 fA fd ["_law_drawn_here","_law_fault"] (spD K 2 (jQ C)):=by
  have nd:=sc_l_wires.nd
  refine F.ok sc_l_wires rfl rfl fun cdv A outer s H E hr=>?_
  exact (aF (Z26 (aA 0) (C5 (is:=[2,3,4,5]) rfl (gL (fN (i:=2) nd rfl (Or.inl rfl)) (gL (fN (i:=3) nd rfl (Or.inl rfl)) (gL (fN (i:=4) nd rfl (Or.inl rfl)) (gL (fN (i:=5) nd rfl (Or.inl rfl)) rP)))) rfl))
      (aF (aU (i:=6) nd rfl (Or.inl rfl) (qp (aT dL (qp (aN fQ (qp aG) (qp (aN fQ (qp aG) (aA 2))))) (qp aG))))
      (aF (aU (i:=7) nd rfl (Or.inl rfl) (fE aJ))
      (aF (cL rfl PassesOwn.never (dQ (rs:=[]) (by rfl) z_range (aD (QE.weak (qp (aT gT (aA 2) (qp (eF (by rfl) z_len (aA 3)))))) (aJ (m:=false) (rs:=[])))) (bX (i:=8) nd rfl (Or.inl rfl)) (aH (cZ (QW.qt (jZ (rN (aA 1)) (jJ (dS (cJ hr) (qp (vE (aA 1) kL (kK (qp aG)))) (kQ (aD (QE.weak (qp cT)) (aD (QE.more (aA 8) (by simp)) (aJ (m:=false) (rs:=[8]))))))))) (aH (iH 7 (qp (aN fF (aA 6) (aR (aA 1) (qp aG)))))) (aH (cZ (yO (aA 8) (aA 2)) (aH (iH 7 (QE.flat (aR (aA 5) (aA 8))))) (aH (iH 7 (aV c_l_row_table (hr.mono (by decide)) (.cons (.cons (.cons (.cons (.cons NArgs.nil))))) rfl (aD (QE.more (aA 7) (by simp)) (aD (QE.more (aR (aA 3) (qp (aT dL (aA 8) (aA 2)))) (by simp)) (aD (QE.more (aA 1) (by simp)) (aD (QE.more (aA 8) (by simp)) (aD (QE.more (aA 6) (by simp)) (aJ (m:=false) (rs:=[7,3,1,8,6])))))))))))))))
      (aH (jK (i:=7)))))))
theorem sc_l_out_tables:aS ["_law_drawn_here","_law_fault","_law_seen"] ["_law_drawn_here","_law_fault"] (aE cG):=⟨rfl,rfl,rfl,by decide +kernel,rfl,by decide +kernel,by decide +kernel⟩
theorem rG   (F:FunD K "_law_out_tables" "_law_out_tables" cG fA fd) (c_l_wires:aM P w K mg base "_law_wires" [] 3 2 (jQ C)) :
    FnOk P w K mg base CX0 4 fA fd ["_law_drawn_here","_law_fault"] (spD K 2 (cN C)):=by
  have nd:=sc_l_out_tables.nd
  refine F.ok sc_l_out_tables rfl rfl fun cdv A outer s H E hr=>?_
  exact (aF (aU (i:=2) nd rfl (Or.inr rfl) (aV c_l_wires (hr.mono (by decide)) (.cons (.cons NArgs.nil)) rfl (aD (QE.more (aA 0) (by simp)) (aD (QE.more (aA 1) (by simp)) (aJ (m:=false) (rs:=[0,1]))))))
      (aH (bB (iB (fr:=[2]) rfl (by rfl) (dA (aR (aA 0) (qp aG))) (show List.Nodup (["_law_wire","_law_seen"]:List Str) from by decide +kernel) (by rfl) (fun _ _ _ _ _ _=>gQ) (fun _ _ _ _ _ _=>(QE.flat (aR (aA 1) (aA 0))))))))
theorem sc_l_telling:aS ["_law_good","_law_bad","_law_total","_law_k"] ["_law_good","_law_bad"] (aE dZ):=⟨rfl,rfl,rfl,by decide +kernel,rfl,by decide +kernel,by decide +kernel⟩
theorem wR   (F:FunD K "_law_telling" "_law_telling" dZ fA fd) (z_len:mg "len" = none) (z_range:mg "range" = none) :
    FnOk P w K mg base CX0 1 fA fd ["_law_good","_law_bad"] (spD K 2 (fU C)):=by
  have nd:=sc_l_telling.nd
  refine F.ok sc_l_telling rfl rfl fun cdv A outer s H E hr=>?_
  exact (aF (aU (i:=2) nd rfl (Or.inl rfl) (qp aG))
      (aF (cL rfl PassesOwn.never (dQ (rs:=[]) (by rfl) z_range (aD (QE.weak (qp (eF (by rfl) z_len (aA 0)))) (aJ (m:=false) (rs:=[])))) (bX (i:=3) nd rfl (Or.inl rfl)) (aH (aU (i:=2) nd rfl (Or.inl rfl) (qp (aT oA (aA 2) (qp (aT dL (qp (aT oA (aR (aA 0) (aA 3)) (aR (aA 1) (aA 3)))) (qp (aT sQ (aR (aA 0) (aA 3)) (aR (aA 1) (aA 3)))))))))))
      (aH (bB (QE.flat (aA 2))))))
theorem sc_l_own:aS ["_law_drawn_here","_law_wire"] ["_law_drawn_here","_law_wire"] (aE jG):=⟨rfl,rfl,rfl,by decide +kernel,rfl,by decide +kernel,by decide +kernel⟩
theorem Z0O   (F:FunD K "_law_own" "_law_own" jG fA fd) (z_list:mg "list" = none) :
    FnOk P w K mg base CX0 1 fA fd ["_law_drawn_here","_law_wire"] (spD K 2 (jL C)):=by
  have nd:=sc_l_own.nd
  refine F.ok sc_l_own rfl rfl fun cdv A outer s H E hr=>?_
  exact (aF (cZ (QW.qt (yN (yO (aA 1) (aR (aA 0) (qp aG))) (wL (dS (cJ hr) (aR (aR (aR (aA 0) (qp aG)) (qp (aT dL (aA 1) (aR (aA 0) (qp aG))))) (qp aG)) (qp cT))))) (aH (bB (fE aJ))) bO)
      (aH (bB (qp (nP (by rfl) z_list (qp (oZ (aR (aR (aA 0) (qp aG)) (qp (aT dL (aA 1) (aR (aA 0) (qp aG))))) (kK (qp aG)) kL)))))))
theorem sc_l_bits_of:aS ["_law_drawn_here","_law_wire"] ["_law_drawn_here","_law_wire"] (aE eD):=⟨rfl,rfl,rfl,by decide +kernel,rfl,by decide +kernel,by decide +kernel⟩
theorem wT   (F:FunD K "_law_bits_of" "_law_bits_of" eD fA fd)  :
    FnOk P w K mg base CX0 1 fA fd ["_law_drawn_here","_law_wire"] (spD K 2 (dB C)):=by
  have nd:=sc_l_bits_of.nd
  refine F.ok sc_l_bits_of rfl rfl fun cdv A outer s H E hr=>?_
  exact (aF (cZ (QW.qt (jZ (Z0j (aA 1) (aR (aA 0) (qp aG))) (jJ (dS (cJ hr) (aR (aR (aR (aA 0) (qp aG)) (qp (aT dL (aA 1) (aR (aA 0) (qp aG))))) (qp aG)) (qp cT))))) (aH (bB (fE (aD (qp (aT dL (qp aG) (aR (aR (aR (aA 0) (qp aG)) (qp (aT dL (aA 1) (aR (aA 0) (qp aG))))) (qp aG)))) aJ)))) bO)
      (aH (bB (fE (aD (qp aG) (aD (qp aG) aJ))))))
theorem sc_l_faults:aS ["_law_drawn_here","_law_wanted","_law_wire","_law_found","_law_own_here","_law_leg_here"] ["_law_drawn_here"] (aE eU):=⟨rfl,rfl,rfl,by decide +kernel,rfl,by decide +kernel,by decide +kernel⟩
theorem yT   (F:FunD K "_law_faults" "_law_faults" eU fA fd) (c_l_bits_of:aM P w K mg base "_law_bits_of" [] 1 2 (dB C)) (c_l_own:aM P w K mg base "_law_own" [] 1 2 (jL C)) (z_len:mg "len" = none) (z_list:mg "list" = none) (z_range:mg "range" = none) (z_reversed:mg "reversed" = none) :
    FnOk P w K mg base CX0 2 fA fd ["_law_drawn_here"] (spD K 1 (iJ C)):=by
  have nd:=sc_l_faults.nd
  refine F.ok sc_l_faults rfl rfl fun cdv A outer s H E hr=>?_
  exact (aF (aU (i:=1) nd rfl (Or.inl rfl) (qp (nP (by rfl) z_list (aR (aA 0) (qp aG)))))
      (aF (cL rfl PassesOwn.never (Z2a (rs:=[]) (by rfl) z_range (by rfl) z_reversed (aD (QE.weak (qp (aT gT (aR (aA 0) (qp aG)) (qp (eF (by rfl) z_len (aR (aA 0) (qp aG))))))) (aJ (m:=false) (rs:=[])))) (bX (i:=2) nd rfl (Or.inr rfl)) (aH (cZ (L8 (L1 hr) (aA 2) (aA 1)) (aH (nO 1 1 nd rfl (Or.inl rfl) (aV c_l_own (hr.mono (by decide)) (.cons (.cons NArgs.nil)) rfl (aD (QE.more (aA 0) (by simp)) (aD (QE.more (aA 2) (by simp)) (aJ (m:=false) (rs:=[0,2]))))))) bO)))
      (aF (aU (i:=3) nd rfl (Or.inl rfl) (fE aJ))
      (aF (cL rfl PassesOwn.never (dQ (rs:=[]) (by rfl) z_range (aD (QE.weak (qp (aT gT (aR (aA 0) (qp aG)) (qp (eF (by rfl) z_len (aR (aA 0) (qp aG))))))) (aJ (m:=false) (rs:=[])))) (bX (i:=2) nd rfl (Or.inr rfl)) (aH (cZ (L8 (L1 hr) (aA 2) (aA 1)) (aF (nO 3 3 nd rfl (Or.inl rfl) (iB (fr:=[2]) rfl (by rfl) (dA (m1:=true) (rs:=[]) (aV c_l_bits_of (hr.mono (by decide)) (.cons (.cons NArgs.nil)) rfl (aD (QE.more (aA 0) (by simp)) (aD (QE.more (aA 2) (by simp)) (aJ (m:=false) (rs:=[0,2])))))) (show List.Nodup (["_law_bit","_law_wire"]:List Str) from by decide +kernel) (by rfl) (fun _ _ _ _ _ _=>gQ) (fun _ _ _ _ _ _=>(kQ (aD (qp cT) (aD (QE.flat (aA 1)) (aD (QE.flat (aA 0)) aJ)))))))
      (aF (aU (i:=4) nd rfl (Or.inl rfl) (aV c_l_own (hr.mono (by decide)) (.cons (.cons NArgs.nil)) rfl (aD (QE.more (aA 0) (by simp)) (aD (QE.more (aA 2) (by simp)) (aJ (m:=false) (rs:=[0,2]))))))
      (aH (cL rfl PassesOwn.never (dQ (rs:=[]) (by rfl) z_range (aD (QE.weak (qp (eF (by rfl) z_len (aA 4)))) (aJ (m:=false) (rs:=[])))) (bX (i:=5) nd rfl (Or.inr rfl)) (aH (nO 3 3 nd rfl (Or.inl rfl) (iB (fr:=[2,5]) rfl (by rfl) (dA (m1:=true) (rs:=[]) (aV c_l_bits_of (hr.mono (by decide)) (.cons (.cons NArgs.nil)) rfl (aD (QE.more (aA 0) (by simp)) (aD (QE.more (aR (aA 4) (aA 5)) (by simp)) (aJ (m:=false) (rs:=[0,4])))))) (show List.Nodup (["_law_bit","_law_wire","_law_leg_here"]:List Str) from by decide +kernel) (by rfl) (fun _ _ _ _ _ _=>gQ) (fun _ _ _ _ _ _=>(kQ (aD (qp cT) (aD (QE.flat (aA 1)) (aD (QE.flat (aA 2)) (aD (QE.flat (aA 0)) aJ))))))))))))) bO)))
      (aH (jK (i:=3)))))))
theorem sc_l_givens:aS ["_law_mask"] ["_law_mask"] (aE eT):=⟨rfl,rfl,rfl,by decide +kernel,rfl,by decide +kernel,by decide +kernel⟩
theorem yS   (F:FunD K "_law_givens" "_law_givens" eT fA fd) (z_range:mg "range" = none) :
    FnOk P w K mg base CX0 1 fA fd ["_law_mask"] (spD K 1 (iI C)):=by
  have nd:=sc_l_givens.nd
  refine F.ok sc_l_givens rfl rfl fun cdv A outer s H E hr=>?_
  exact (aH (bB (iB (fr:=[0]) rfl (by rfl) (dQ (rs:=[]) (by rfl) z_range (aD (QE.weak (qp (Z2g (aA 0)))) (aJ (m:=false) (rs:=[])))) (show List.Nodup (["_law_given","_law_mask"]:List Str) from by decide +kernel) (by rfl) (fun _ _ _ _ _ _=>nN (dS (cJ hr) (qp (aN cU (qp (aN fI (aA 1) (qp (aN fQ (qp aG) (aA 0))))) (qp aG))) (qp aG))) (fun _ _ _ _ _ _=>(QE.flat (aA 0))))))
theorem sc_l_chosen:aS ["_law_masks","_law_script","_law_chosen_here","_law_k","_law_givens_here","_law_number"] ["_law_masks","_law_script"] (aE eV):=⟨rfl,rfl,rfl,by decide +kernel,rfl,by decide +kernel,by decide +kernel⟩
theorem yU   (F:FunD K "_law_chosen" "_law_chosen" eV fA fd) (c_l_at:aM P w K mg base "_law_at" [] 1 2 (jB C)) (c_l_givens:aM P w K mg base "_law_givens" [] 1 1 (iI C)) (c_l_mixed:aM P w K mg base "_law_mixed" [] 1 2 (fK C)) (z_len:mg "len" = none) (z_range:mg "range" = none) :
    FnOk P w K mg base CX0 2 fA fd ["_law_masks","_law_script"] (spD K 2 (iK C)):=by
  have nd:=sc_l_chosen.nd
  refine F.ok sc_l_chosen rfl rfl fun cdv A outer s H E hr=>?_
  exact (aF (aU (i:=2) nd rfl (Or.inl rfl) (qp aG))
      (aF (cL rfl PassesOwn.never (dQ (rs:=[]) (by rfl) z_range (aD (QE.weak (qp (eF (by rfl) z_len (aA 0)))) (aJ (m:=false) (rs:=[])))) (bX (i:=3) nd rfl (Or.inl rfl)) (aF (aU (i:=4) nd rfl (Or.inl rfl) (aV c_l_givens (hr.mono (by decide)) (.cons NArgs.nil) rfl (aD (QE.more (aR (aA 0) (aA 3)) (by simp)) (aJ (m:=false) (rs:=[0])))))
      (aF (aU (i:=5) nd rfl (Or.inl rfl) (aV c_l_mixed (hr.mono (by decide)) (.cons (.cons NArgs.nil)) rfl (aD (QE.weak (aV c_l_at (hr.mono (by decide)) (.cons (.cons NArgs.nil)) rfl (aD (QE.more (aA 1) (by simp)) (aD (QE.weak (qp (aN cU (aA 3) (qp aG)))) (aJ (m:=false) (rs:=[1])))))) (aD (QE.weak (qp (aT gT (aA 3) (qp aG)))) (aJ (m:=false) (rs:=[]))))))
      (aH (aU (i:=2) nd rfl (Or.inl rfl) (qp (aT oA (aA 2) (qp (aN fQ (qp aG) (aR (aA 4) (qp (aN cU (aA 5) (qp (eF (by rfl) z_len (aA 4)))))))))))))))
      (aH (bB (QE.flat (aA 2))))))
theorem sc_l_grouped:aS ["_law_found","_law_masks","_law_tables_of","_law_spare","_law_seen","_law_some","_law_fault","_law_firsts","_law_k","_law_quiet"] ["_law_found","_law_masks","_law_tables_of","_law_spare"] (aE eB):=⟨rfl,rfl,rfl,by decide +kernel,rfl,by decide +kernel,by decide +kernel⟩
theorem wS   (F:FunD K "_law_grouped" "_law_grouped" eB fA fd) (z_int:mg "int" = none) (z_len:mg "len" = none) (z_range:mg "range" = none) :
    FnOk P w K mg base CX0 1 fA fd ["_law_found","_law_masks","_law_tables_of","_law_spare"] (spD K 4 (gZ C)):=by
  have nd:=sc_l_grouped.nd
  refine F.ok sc_l_grouped rfl rfl fun cdv A outer s H E hr=>?_
  exact (aF (aU (i:=4) nd rfl (Or.inl rfl) (fE aJ))
      (aF (cL rfl PassesOwn.never (dA (aA 0)) (bX (i:=5) nd rfl (Or.inl rfl)) (aH (cL rfl PassesOwn.never (dA (aA 5)) (bX (i:=6) nd rfl (Or.inl rfl)) (aF (cZ (QW.qt (yN (vD (gJ hr) (aA 6) (aA 1)) (yN (L8 (L1 hr) (aA 6) (aA 4)) (wL (Z3i (cJ hr) (fM (gJ hr) (aA 2) (aA 6)) (fM (gJ hr) (aA 2) (aR (aA 5) (qp aG)))))))) (aH (bB (qp qQ))) bO)
      (aH (iH 4 (QE.flat (aA 6))))))))
      (aF (qP (i:=7) (ro:=[0,2]) (ri:=[1]) (fr:=[2]) rfl nd rfl (Or.inl rfl) (by rfl) (dA (aA 0)) (show List.Nodup (["_law_some","_law_tables_of"]:List Str) from by decide +kernel) (by rfl) (fun _ _ _ _ _ _=>nN (Z0i (qp (eF (by rfl) z_len (aA 0))) (qp aG))) (fun _ _ _ _ _ _=>(fM (gJ hr) (aA 1) (aR (aA 0) (qp aG)))) (by simp) (by intro i h;simp at h <;> (subst h;decide)))
      (aF (cL rfl PassesOwn.never (dQ (rs:=[]) (by rfl) z_range (aD (QE.weak (qp (eF (by rfl) z_len (aA 7)))) (aJ (m:=false) (rs:=[])))) (bX (i:=8) nd rfl (Or.inl rfl)) (aH (cZ (L8 (L1 hr) (aR (aA 7) (aA 8)) (Z0o (aA 7) kL (kK (aA 8)))) (aH (bB (qp qQ))) bO)))
      (aF (qP (i:=9) (ro:=[0]) (ri:=[0]) (fr:=[1]) rfl nd rfl (Or.inl rfl) (by rfl) (dA (aA 0)) (show List.Nodup (["_law_some","_law_masks"]:List Str) from by decide +kernel) (by rfl) (fun _ _ _ _ _ _=>nN (QW.qt (jZ (Z0i (qp (eF (by rfl) z_len (aA 0))) (qp aG)) (jJ (dS (cJ hr) (fM (gJ hr) (aA 1) (aR (aA 0) (qp aG))) (qp aG)))))) (fun _ _ _ _ _ _=>(aA 0)) (by simp) (by intro i h;simp at h <;> (subst h;decide)))
      (aH (bB (qp (Z0u (qp (yP (cJ hr) (qp (eF (by rfl) z_len (aA 4))) (qp (Z2d (by rfl) z_len (aA 1))))) (Z0q (qp (yP (cJ hr) (aA 9) (Z0o (fE (aD (QE.more (aA 3) (by simp)) (aJ (m:=false) (rs:=[3])))) kL (kK (qp (M5 (by rfl) z_int (qp (Z2e Z3k (qp (eF (by rfl) z_len (aA 3))) (qp aG) (lZ _)))))))))))))))))))
theorem sc_law:aS ["_law_script","_law_drawn_here","_law_circuit","_law_good","_law_masks","_law_tables_of","_law_fault","_law_found","_law_other","_law_chosen_here"] ["_law_script"] (aE mL):=⟨rfl,rfl,rfl,by decide +kernel,rfl,by decide +kernel,by decide +kernel⟩
theorem Z43   (F:FunD K "law" "law" mL fA fd) (c_l_chosen:aM P w K mg base "_law_chosen" [] 2 2 (iK C)) (c_l_drawn:aM P w K mg base "_law_drawn" [] 3 1 (jS C)) (c_l_faults:aM P w K mg base "_law_faults" [] 2 1 (iJ C)) (c_l_grouped:aM P w K mg base "_law_grouped" [] 1 4 (gZ C)) (c_l_out_tables:aM P w K mg base "_law_out_tables" [] 4 2 (cN C)) (c_l_telling:aM P w K mg base "_law_telling" [] 1 2 (fU C)) (c_groups:aM P w K mg base "groups" [] 6 1 (kC C)) (c_hard:aM P w K mg base "hard" [] 7 1 (pX C)) (c_idle:aM P w K mg base "idle" [] 7 1 (pW C)) (mk_Circuit:Z1M P w K mg base "Circuit" C 1 3 (iL C)) (z_list:mg "list" = none) :
    FnOk P w K mg base CX0 8 fA fd ["_law_script"] (spD K 1 (Z0W C)):=by
  have nd:=sc_law.nd
  refine F.ok sc_law rfl rfl fun cdv A outer s H E hr=>?_
  exact (aF (aU (i:=1) nd rfl (Or.inl rfl) (aV c_l_drawn (hr.mono (by decide)) (.cons NArgs.nil) rfl (aD (QE.more (aA 0) (by simp)) (aJ (m:=false) (rs:=[0])))))
      (aF (aU (i:=2) nd rfl (Or.inl rfl) (Z4W mk_Circuit (hr.mono (by decide)) (.cons (.cons (.cons NArgs.nil))) (aD (QE.more (aR (aA 1) (qp aG)) (by simp)) (aD (QE.weak (qp (nP (by rfl) z_list (aR (aA 1) (qp aG))))) (aD (QE.weak (qp (nP (by rfl) z_list (aR (aA 1) (qp aG))))) (aJ (m:=false) (rs:=[1])))))))
      (aF (aU (i:=3) nd rfl (Or.inl rfl) (aV c_l_out_tables (hr.mono (by decide)) (.cons (.cons NArgs.nil)) rfl (aD (QE.more (aA 1) (by simp)) (aD (QE.weak (qp Z0r)) (aJ (m:=false) (rs:=[1]))))))
      (aF (aU (i:=4) nd rfl (Or.inr rfl) sK)
      (aF (aU (i:=5) nd rfl (Or.inl rfl) sK)
      (aF (cL rfl PassesOwn.never (dA (m1:=true) (rs:=[]) (aV c_l_faults (hr.mono (by decide)) (.cons NArgs.nil) rfl (aD (QE.more (aA 1) (by simp)) (aJ (m:=false) (rs:=[1]))))) (bX (i:=6) nd rfl (Or.inl rfl)) (aF (L9 (gJ hr) 5 (aA 6) (aV c_l_out_tables (hr.mono (by decide)) (.cons (.cons NArgs.nil)) rfl (aD (QE.more (aA 1) (by simp)) (aD (QE.more (aA 6) (by simp)) (aJ (m:=false) (rs:=[1,6]))))))
      (aH (L9 (gJ hr) 4 (aA 6) (aV c_l_telling (hr.mono (by decide)) (.cons (.cons NArgs.nil)) rfl (aD (QE.more (aA 3) (by simp)) (aD (QE.more (fM (gJ hr) (aA 5) (aA 6)) (by simp)) (aJ (m:=false) (rs:=[3,5])))))))))
      (aF (aU (i:=7) nd rfl (Or.inl rfl) (aV c_hard (hr.mono (by decide)) (.cons NArgs.nil) rfl (aD (QE.more (aA 2) (by simp)) (aJ (m:=false) (rs:=[2])))))
      (aF (cL rfl PassesOwn.never (dA (aA 7)) (bX (i:=6) nd rfl (Or.inl rfl)) (aF (cZ (QW.qt (yN (vD (gJ hr) (aA 6) (aA 4)) (wL (dS (cJ hr) (fM (gJ hr) (aA 4) (aA 6)) (qp aG))))) (aH (bB (qp qQ))) bO)
      (aH (cL rfl PassesOwn.never (dA (aA 7)) (bX (i:=8) nd rfl (Or.inl rfl)) (aH (cZ (QW.qt (jZ (Z3i (cJ hr) (fM (gJ hr) (aA 4) (aA 8)) (fM (gJ hr) (aA 4) (aA 6))) (jJ (dS (cJ hr) (qp (aT oA (fM (gJ hr) (aA 4) (aA 8)) (fM (gJ hr) (aA 4) (aA 6)))) (fM (gJ hr) (aA 4) (aA 6)))))) (aH (bB (qp qQ))) bO))))))
      (aF (aU (i:=9) nd rfl (Or.inl rfl) (aV c_l_chosen (hr.mono (by decide)) (.cons (.cons NArgs.nil)) rfl (aD (QE.weak (iB (fr:=[4]) rfl (by rfl) (dA (aA 7)) (show List.Nodup (["_law_fault","_law_masks"]:List Str) from by decide +kernel) (by rfl) (fun _ _ _ _ _ _=>gQ) (fun _ _ _ _ _ _=>(QE.flat (fM (gJ hr) (aA 1) (aA 0)))))) (aD (QE.more (aA 0) (by simp)) (aJ (m:=false) (rs:=[0]))))))
      (aF (cL rfl PassesOwn.never (Z0l (aA 4)) (bX (i:=6) nd rfl (Or.inl rfl)) (aH (cZ (QW.qt (jZ (Z0i (fM (gJ hr) (aA 4) (aA 6)) (qp aG)) (jJ (dS (cJ hr) (qp (aT sQ (fM (gJ hr) (aA 4) (aA 6)) (aA 9))) (qp aG))))) (aH (bB (qp qQ))) bO)))
      (aH (bB (aV c_l_grouped (hr.mono (by decide)) (.cons (.cons (.cons (.cons NArgs.nil)))) rfl (aD (QE.weak (aV c_groups (hr.mono (by decide)) (.cons NArgs.nil) rfl (aD (QE.more (aA 2) (by simp)) (aJ (m:=false) (rs:=[2]))))) (aD (QE.more (aA 4) (by simp)) (aD (QE.more (aA 5) (by simp)) (aD (QE.weak (aV c_idle (hr.mono (by decide)) (.cons NArgs.nil) rfl (aD (QE.more (aA 2) (by simp)) (aJ (m:=false) (rs:=[2]))))) (aJ (m:=false) (rs:=[4,5])))))))))))))))))))
end
local macro_rules | `(tactic| walk_at "ev") => do
  let ns:=("runF enStart List.map_cons List.map_nil List.length_cons List.length_nil List.cons_append List.nil_append List.append_nil List.replicate Nat.reduceAdd Nat.reduceSub Nat.reduceLeDiff PD.fz PD.fz1 ev_var ev_C ev_Flat ev_B ev_OfB ev_And ev_Or ev_Not ev_Nil ev_Cons ev_Tup ev_Lst ev_BI ev_IsN ev_Eq ev_Ix ev_I2' ev_I0' ev_Call ev_B1 ev_NoP ev_P ev_Sl ev_In ev_Bits ev_SlW ev_RevSl ev_InK keyOf ev_seq ev_TT ev_rNext ev_rIf ev_rRet ev_rSet ev_rSeq List.getElem?_cons_zero List.getElem?_cons_succ List.set_cons_zero List.set_cons_succ Option.join_some Option.map_some Option.bind_some PD.flat Bool.not_true Bool.not_false if_true if_false eqN_int eqN_str eqN_bl eqN_non eqN_tnon atI_m3 atI_m4 atI_0 atI_1 atI_2 atI_3 decide_true decide_false eq_self and_self Bool.and_true Bool.and_false Bool.true_and Bool.false_and eqN_tup eqL_cons eqL_nil eqL_nilL reduceIte reduceCtorEq Int.reduceEq Int.reduceAdd Int.reduceSub Int.reduceLT Int.reduceLE Int.reduceNeg Nat.reduceEqDiff Nat.reduceBEq Bool.false_eq_true".splitOn " ").toArray.map fun s=>Lean.mkIdent s.toName
  `(tactic| simp only [$[$ns:ident],*, *])
theorem Z2E {C:Addr}{ins:Int}{rows:List Row}{outs:List Int}(hl:rows.length <= 1000):iL C [.int ins,.lst (rows.map Row.d),LI outs]=some (bQ C ins rows outs):=by
  have e1:bZ [] (dW (aB 2)) fTT (fB1 xS (aC (aB 0) aL)) [none,some (false,.int ins),some (false,.lst (rows.map Row.d)),some (false,LI outs)]=some (.lst (rows.map Row.d)) :=
    eO Row.d Row.d (xs:=rows) rfl hl fun r _=>by cases r <;> rfl
  have e2:iD [.lst (outs.map D.int)]=some (.lst (outs.map D.int)):=by simp only [iD,fL,if_true]
  unfold iL
  simp only [e1]
  simp only [LI,bQ]
  walk_at "ev"
theorem on_wire {C:Addr}{v w o:Int}{f:Flt}(h:-(2 ^ 64) < o /\ o < 2 ^ 64 \/ ∀ w b,f=.wire w b->b=0 \/ b=1):dX C [.int v,.int w,.int o,f.d]=some (.int (bP v w o f)):=by
  cases f with
  | none=>simp [dX,runF,enStart,lK,Flt.d,PD.flat,bP]
  | wire w' b =>
    by_cases hw:w'=w
    . have hm:IntMulOk o b:=h.elim (fun z=>nR z.1 z.2) fun z=>by rcases z w' b rfl with z | z <;> (subst z;exact nQ (by decide) (by decide))
      simp [dX,runF,enStart,lK,Flt.d,PD.flat,bP,atI_0,atI_1,atI_2,eqN_str,eqN_int,hw,hm]
    . simp [dX,runF,enStart,lK,Flt.d,PD.flat,bP,atI_0,atI_1,atI_2,eqN_str,eqN_int,hw]
  | leg w' l b =>
    simp [dX,runF,enStart,lK,Flt.d,PD.flat,bP,atI_0,atI_1,atI_2,eqN_str,eqN_int,Z3C]
theorem leg_wires {C:Addr}(r:Row):cP C [r.d]=some (LI r.ws):=by
  cases r with
  | fix b=>simp [cP,runF,enStart,kN,atI_0,eqN_str,Row.d,LI,Row.ws]
  | not a=>simp [cP,runF,enStart,kN,atI_0,eqN_str,Row.d,LI,Row.ws,R4,fSl,flats,PD.flat,Z33,Z06,iD]
  | bin k a b=>simp [cP,runF,enStart,kN,atI_0,eqN_str,Row.d,LI,Row.ws,R5,fSl,flats,PD.flat,Z33,Z06,iD]
theorem X5 {vs:List Int}(env:En) (he:env=[some (false,LI vs)]) (ws:List Int) (h:∀ a ∈ ws,0 <= a /\ a < vs.length):cR fTT (bF (fIx (aB 1) (aB 0))) env (ws.map D.int)=some ((ws.map (nth vs)).map D.int):=by
  subst he
  rw [qJ D.int (fun a=>.int (nth vs a)) ws fun a ha=>by simp [LI,gW (h a ha).1 (h a ha).2,PD.flat]]
  simp [Function.comp_def]
theorem leg_values {C:Addr}{r:Row}{w o:Int}{vs:List Int}{f:Flt}(hw:∀ a ∈ r.ws,0 <= a /\ a < vs.length) (hl:∀ w' l b,f=.leg w' l b->w'=w->0 <= l /\ l < r.ws.length) (hm:∀ w' l b,f=.leg w' l b->IntMulOk o b) :
    cM C [r.d,.int w,LI vs,.int o,f.d]=some (LI (legs r w vs o f)):=by
  have hlen:r.ws.length <= 1000:=by cases r <;> simp [Row.ws]
  have e1:∀ x:D,bZ [2] (dW (aQ (cP C) [] (aC (aB 0) aL))) fTT (bF (fIx (aB 1) (aB 0))) [some (false,r.d),some (false,.int w),some (false,LI vs),some (false,.int o),some (false,x),none]=some (LI (r.ws.map (nth vs))):=by
    intro x
    simp only [bZ,dW,aQ,aC,aB,aL,List.getElem?_cons_zero,Option.join_some,Option.map_some,Option.bind_some,List.append_nil,leg_wires,LI,List.length_map,hlen,if_true]
    rw [X5 (vs:=vs) (iF [2] _) (by simp [iF,LI]) r.ws hw]
    rfl
  cases f with
  | none=>simp [cM,runF,enStart,iC,e1,Flt.d,jY,legs]
  | wire w' b=>simp [cM,runF,enStart,iC,e1,Flt.d,jY,legs,atI_0,eqN_str,Z3B]
  | leg w' l b =>
    by_cases hww:w'=w
    . subst hww
      obtain⟨l0,l1⟩:=hl _ l b rfl rfl
      have hmm:=hm _ l b rfl
      simp only [LI] at e1
      have hfl:flats (List.map (D.int ∘ nth vs) r.ws)=true:=by have:=fL (r.ws.map (nth vs));simpa using this
      simp [cM,runF,enStart,iC,e1,Flt.d,jY,legs,atI_0,atI_1,atI_2,atI_3,eqN_str,eqN_int,yL,hmm,LI,Z19 l0 (by simpa using l1),hfl,PD.flat,List.map_set]
    . simp [cM,runF,enStart,iC,e1,Flt.d,jY,legs,atI_0,atI_1,atI_2,eqN_str,eqN_int,hww]
theorem gate_value {C:Addr}{r:Row}{ls:List Int}{o:Int}(hl:ls.length=r.ws.length) (hm:∀ b,r=.fix b->IntMulOk o b):cX C [r.d,LI ls,.int o]=some (.int (iO r ls o)):=by
  cases r with
  | fix b =>
    have:=hm b rfl
    simp [cX,runF,enStart,jM,Row.d,atI_0,atI_1,PD.flat,eqN_str,this,iO]
  | not a =>
    have h0:atI (ls.map D.int) 0=some (.int (nth ls 0)):=gW (by decide) (by simp [Row.ws] at hl;omega)
    simp [cX,runF,enStart,jM,Row.d,atI_0,atI_1,PD.flat,eqN_str,iO,R4,LI,h0]
  | bin k a b =>
    have h0:atI (ls.map D.int) 0=some (.int (nth ls 0)):=gW (by decide) (by simp [Row.ws] at hl;omega)
    have h1:atI (ls.map D.int) 1=some (.int (nth ls 1)):=gW (by decide) (by simp [Row.ws] at hl;omega)
    cases k <;> simp [cX,runF,enStart,jM,Row.d,atI_0,atI_1,PD.flat,eqN_str,iO,R5,Z4I,Z4J,Z4H,LI,h0,h1]
theorem borne {C:Addr}{ins o:Int}{rows:List Row}{outs ss:List Int}{f:Flt}(hs:ss.length + rows.length <= 1000) (hr:RowsOk ss.length rows) (hf:FltOk ss.length rows f) :
    nS C [bQ C ins rows outs,LI ss,.int o,f.d]=some (LI (eG o f (bU o f [] ss) rows)):=by
  have ow:∀ v w,dX C [.int v,.int w,.int o,f.d]=some (.int (bP v w o f)):=fun v w=>on_wire (.inr hf.w)
  refine cA ?_
  unfold O2
  refine lW (d:=.lst []) (by walk_at "ev") ?_
  refine lD (ds:=ss.map D.int) (by walk_at "ev";rfl) (fun i env=>∃ s,env=[some (false,bQ C ins rows outs),some (false,LI ss),some (false,.int o),some (false,f.d),some (true,LI (bU o f [] (ss.take i))),s,none,none,none]) ⟨none,rfl⟩ ?_ ?_
  . rintro i d env hd ⟨s,rfl⟩
    obtain⟨x,hx,rfl⟩:=dM hd
    refine⟨_,_,rfl,?_,some (false,.int x),rfl⟩
    have hi:i < ss.length:=(List.getElem?_eq_some_iff.mp hx).1
    have hl:(bU o f [] (ss.take i)).length <= 1000:=by rw [gX];simp;omega
    rw [bS hx,lS]
    simp [iW,bT,LI,ow,hl,List.map_append]
  rintro env ⟨s1,rfl⟩
  rw [List.length_map,List.take_length]
  refine lD (fW (pG (by rfl))) (fun i env=>∃ s a b c,env=[some (false,bQ C ins rows outs),some (false,LI ss),some (false,.int o),some (false,f.d),some (true,LI (eG o f (bU o f [] ss) (rows.take i))),s,a,b,c]) ⟨s1,none,none,none,rfl⟩ ?_ ?_
  . rintro i d env hd ⟨s,a,b,c,rfl⟩
    obtain⟨r,hx,rfl⟩:=dM hd
    have hi:i < rows.length:=(List.getElem?_eq_some_iff.mp hx).1
    have hvl:(eG o f (bU o f [] ss) (rows.take i)).length=ss.length + i:=by rw [pR,gX];simp;omega
    generalize hvs:eG o f (bU o f [] ss) (rows.take i)=vs at hvl
    have hrow:=hr i r hx
    have lv:cM C [r.d,.int (vs.length:Int),LI vs,.int o,f.d]=some (LI (legs r vs.length vs o f)) :=
      leg_values (fun a ha=>by rw [hvl];exact hrow.ws a ha) (fun w' l b e hw=>hf.leg w' l b i r e hx (by rw [hw,hvl])) (fun w' l b e=>pO (hf.l w' l b e))
    have gv:cX C [r.d,LI (legs r vs.length vs o f),.int o]=some (.int (iO r (legs r vs.length vs o f) o)):=gate_value (Z0X _ _ _ _ _) (fun b e=>pO (by subst e;exact hrow))
    refine⟨_,_,rfl,?_,s,some (false,r.d),some (true,.int vs.length),some (true,LI (legs r vs.length vs o f)),rfl⟩
    have hl:vs.length <= 1000:=by omega
    rw [bS hx,oH,hvs]
    simp only [LI] at lv gv
    simp [iW,bT,LI,ow,hl,List.map_append,lv,gv]
  rintro env ⟨s2,a2,b2,c2,rfl⟩
  rw [List.length_map,List.take_length]
  rfl
theorem at_outs {C:Addr}{ins:Int}{rows:List Row}{outs vs:List Int}(ho:outs.length <= 1000) (h:∀ a ∈ outs,0 <= a /\ a < vs.length):jT C [bQ C ins rows outs,LI vs]=some (LI (outs.map (nth vs))):=by
  refine cA ?_
  show cD _ [some (false,bQ C ins rows outs),some (false,LI vs)]=_
  unfold cD
  rw [eO D.int (fun a=>.int (nth vs a)) (xs:=outs) (fW (zO (by rfl))) ho (fun a ha=>by simp [iF,LI,gW (h a ha).1 (h a ha).2,PD.flat])]
  simp [LI,Function.comp_def]
theorem lC (n:Nat):(1:Int) * 2 ^ (n:Int).toNat=((2 ^ n:Nat):Int):=by rw [Int.one_mul,Int.toNat_natCast];simp
theorem O4 (n:Nat):(1:Int) * 2 ^ ((2 ^ n:Nat):Int).toNat - 1=aZ (2 ^ n):=by rw [Int.one_mul,Int.toNat_natCast];rfl
theorem rO {n:Nat}(h:n <= 8):(0:Int) <= ((2 ^ n:Nat):Int) /\ ((2 ^ n:Nat):Int) <= 256 :=
  ⟨Int.natCast_nonneg _,Int.ofNat_le.mpr (show 2 ^ n <= 256 from Nat.pow_le_pow_right (show 0 < 2 by decide) h)⟩
theorem full_table {C:Addr}{n:Nat}(h:n <= 8):dN C [.int n]=some (.int (aZ (2 ^ n))):=by
  obtain⟨pb0,pb1⟩:=rO h
  have p1:gO 1 (n:Int):=mN (by omega) (by omega)
  have p2:gO 1 ((2 ^ n:Nat):Int):=mN pb0 (Int.le_trans pb1 (by decide))
  have e1:=lC n
  have e2:=O4 n
  unfold dN pE
  clear pb0 pb1 h
  walk_at "ev"
theorem tU (n:Nat) (b:Nat->Bool):Builtin.Int.intBits (tab n b) <= n:=by
  rw [PySem.intBits_le_iff]
  unfold tab
  have:=iQ n b
  simpa using this
theorem Y3 (n:Nat):Builtin.Int.intBits (aZ n) <= n:=by rw [<- oW];exact tU n _
theorem input_tables {C:Addr}{n:Nat}(h:n <= 8):eN C [.int n]=some (LI (inT n)):=by
  refine cA ?_
  unfold nC
  refine lW (d:=.lst []) (by walk_at "ev") ?_
  refine lD (ds:=(List.range n).map fun (k:Nat)=>.int (k:Int)) (eL (xs:=[.int (n:Int)]) (by walk_at "ev") (oY (by omega)))
    (fun i env=>∃ a b,env=[some (false,.int n),some (true,LI (inT i)),a,b]) ⟨none,none,rfl⟩ ?_ ?_
  . rintro i d env hd ⟨a,b,rfl⟩
    obtain⟨hi,rfl⟩:=eM hd
    obtain⟨pb0,pb1⟩:=rO (show i <= 8 by omega)
    have pb2:∀ m:Nat,m=2 ^ i->(m:Int) + ((2 ^ i:Nat):Int) <= 100000000:=fun m e=>by subst e;exact Int.le_trans (Int.add_le_add pb1 pb1) (by decide)
    have p1:gO 1 (i:Int):=mN (by omega) (by omega)
    have e1:=lC i
    have ft:=full_table (C:=C) (n:=i) (by omega)
    refine⟨_,_,rfl,?_,some (false,.int i),some (true,.int ((2 ^ i:Nat):Int)),rfl⟩
    refine lW (d:=.int ((2 ^ i:Nat):Int)) (by clear pb0 pb1 pb2;walk_at "ev") ?_
    refine lW (eO D.int (fun t=>.int (Builtin.bitOr t (t * 2 ^ (2 ^ i)))) (xs:=inT i) (by rfl) (by rw [gF];omega) (fun t ht=>?_)) ?_
    . obtain⟨j,hj⟩:=List.getElem?_of_mem ht
      have hj2:j < i:=by have:=(List.getElem?_eq_some_iff.mp hj).1;rwa [gF] at this
      rw [nT i j hj2] at hj
      have p3:gO t ((2 ^ i:Nat):Int):=by
        rw [<- Option.some.inj hj]
        exact xL (tU _ _) pb0 (pb2 _ rfl)
      show fI0 _ (aB 0) _ [some (false,.int t),some (true,.int ((2 ^ i:Nat):Int))]=_
      clear pb0 pb1 pb2 hj
      walk_at "ev"
      rw [Int.toNat_natCast]
    . have p4:gO (aZ (2 ^ i)) ((2 ^ i:Nat):Int):=xL (Y3 _) pb0 (pb2 _ rfl)
      refine (lX (d:=.int (aZ (2 ^ i) * 2 ^ (2 ^ i))) ?_ rfl (by rw [List.length_map,gF];omega)).trans ?_
      . clear pb0 pb1 pb2
        walk_at "ev"
        rw [Int.toNat_natCast]
      . simp only [inT,LI,List.map_append,List.map_map,List.map_cons,List.map_nil]
        rfl
  . rintro env ⟨a,b,rfl⟩
    rw [List.length_map,List.length_range]
    rfl
theorem Q2 {C:Addr}{ins:Nat}{rows:List Row}{outs:List Int}{f:Flt}(hi:ins <= 8) (hs:ins + rows.length <= 1000) (hr:RowsOk ins rows) (hf:FltOk ins rows f) :
    kB C [bQ C ins rows outs,f.d]=some (LI (bG ins rows f)):=by
  have gl:=gF ins
  have b:=borne (C:=C) (ins:=ins) (o:=aZ (2 ^ ins)) (rows:=rows) (outs:=outs) (ss:=inT ins) (f:=f) (by rw [gl];exact hs) (by rw [gl];exact hr) (by rw [gl];exact hf)
  have it:=input_tables (C:=C) hi
  have ft:=full_table (C:=C) hi
  refine cA (fD (aP (xs:=[bQ C ins rows outs,LI (inT ins),.int (aZ (2 ^ ins)),f.d]) ?_ b))
  refine aW rfl (aW (aP (xs:=[.int ins]) (aW (pH (by rfl)) rfl) it) (aW (aP (xs:=[.int ins]) (aW (pH (by rfl)) rfl) ft) (aW rfl rfl)))
theorem kS {C:Addr}{ins:Nat}{rows:List Row}{outs:List Int}{f:Flt}(hi:ins <= 8) (hs:ins + rows.length <= 1000) (hr:RowsOk ins rows) (hf:FltOk ins rows f) (hl:outs.length <= 1000) (ho:∀ a ∈ outs,0 <= a /\ a < ((ins + rows.length:Nat):Int)) :
    bY C [bQ C ins rows outs,f.d]=some (LI (outs.map (nth (bG ins rows f)))):=by
  have e1:=Q2 (C:=C) (outs:=outs) hi hs hr hf
  have e2:=at_outs (C:=C) (ins:=ins) (rows:=rows) (outs:=outs) (vs:=bG ins rows f) hl (fun a ha=>by rw [kJ];exact ho a ha)
  exact cA (fD (aP (xs:=[bQ C ins rows outs,LI (bG ins rows f)]) (aW rfl (aW (aP (xs:=[bQ C ins rows outs,f.d]) rfl e1) rfl)) e2))
theorem uR {A B:List Int}:∀ (outs:List Int),nW ((outs.map (nth A)).map D.int) ((outs.map (nth B)).map D.int)=outs.map fun a=>.tup [.int (nth A a),.int (nth B a)]
  | []=>rfl
  | a :: outs=>by simp only [List.map_cons,nW];rw [uR outs]
theorem xK {C:Addr}{A B outs:List Int}:hE C [LI (outs.map (nth A)),LI (outs.map (nth B))]=some (.int (mK A B outs)):=by
  refine cA ?_
  unfold rB
  refine lW (d:=.int 0) (by walk_at "ev") ?_
  refine lD (ds:=outs.map fun a=>.tup [.int (nth A a),.int (nth B a)]) (eL (xs:=[LI (outs.map (nth A)),LI (outs.map (nth B))]) rfl (by simp only [A3,LI,uR]))
    (fun i env=>∃ a b,env=[some (false,LI (outs.map (nth A))),some (false,LI (outs.map (nth B))),some (true,.int (mK A B (outs.take i))),a,b]) ⟨none,none,rfl⟩ ?_ ?_
  . rintro i d env hd ⟨a,b,rfl⟩
    obtain⟨x,hx,rfl⟩:=dM hd
    refine⟨_,_,rfl,?_,some (false,.int (nth A x)),some (false,.int (nth B x)),rfl⟩
    rw [rY hx]
    rfl
  . rintro env ⟨a,b,rfl⟩
    rw [List.length_map,List.take_length]
    rfl
noncomputable def bK (ins:Nat) (rows:List Row) (outs:List Int) (f:Flt):Int:=mK (bG ins rows .none) (bG ins rows f) outs
theorem qM {C:Addr}{ins:Nat}{rows:List Row}{outs:List Int}{fs:List Flt}(hi:ins <= 8) (hs:ins + rows.length <= 1000) (hr:RowsOk ins rows) (hf:∀ f ∈ fs,FltOk ins rows f) (hl:outs.length <= 1000) (ho:∀ a ∈ outs,0 <= a /\ a < ((ins + rows.length:Nat):Int)) (hfl:fs.length <= 1000) :
    fT C [bQ C ins rows outs,.lst (fs.map Flt.d)]=some (LI (fs.map (bK ins rows outs))):=by
  have o0:bY C [bQ C ins rows outs,.non]=some (LI (outs.map (nth (bG ins rows .none)))):=kS (f:=.none) hi hs hr .no hl ho
  refine cA ?_
  unfold tJ
  refine lW (aP (xs:=[bQ C ins rows outs]) rfl o0) ?_
  refine fD ?_
  rw [eO Flt.d (fun f=>.int (bK ins rows outs f)) (xs:=fs) (by rfl) hfl (fun f hf'=>?_)]
  . simp [LI,Function.comp_def]
  . have of:=kS (C:=C) (outs:=outs) hi hs hr (hf f hf') hl ho
    exact aP (xs:=[LI (outs.map (nth (bG ins rows .none))),LI (outs.map (nth (bG ins rows f)))]) (aW rfl (aW (aP (xs:=[bQ C ins rows outs,f.d]) rfl of) rfl)) xK
theorem nY {C:Addr}{ins:Nat}{rows:List Row}{outs:List Int}{w:Int}(h1:w < ((ins + rows.length:Nat):Int)):cE C [bQ C ins rows outs,.int w]=some (LI (bD ins rows w)):=by
  have fi:=pH (C:=C) (ins:=ins) (rows:=rows) (outs:=outs) (fa:=aB 0) (env:=[some (false,bQ C ins rows outs),some (false,.int w)]) rfl
  have fr:=pG (C:=C) (ins:=ins) (rows:=rows) (outs:=outs) (fa:=aB 0) (env:=[some (false,bQ C ins rows outs),some (false,.int w)]) rfl
  refine cA ?_
  show mH C [some (false,bQ C ins rows outs),some (false,.int w)]=_
  unfold mH
  by_cases h:w < (ins:Int)
  . rw [lI h]
    refine C0 ?_ (sF rfl)
    clear fr
    walk_at "ev"
  . have hk:(w - (ins:Int)).toNat < rows.length:=by omega
    have hr1:=List.getElem?_eq_getElem hk
    generalize rows[(w - (ins:Int)).toNat]=r at hr1
    have ea:=nG hr1 (a:=w - (ins:Int)) (by omega)
    rw [mE (by omega) hr1]
    refine sNo (by clear fr ea;walk_at "ev") ?_
    refine fD (aP (xs:=[r.d]) (aW ?_ rfl) (leg_wires r))
    walk_at "ev"
theorem lP {C:Addr}{ins:Nat}{rows:List Row}{outs:List Int}{w:Int}(h1:w < ((ins + rows.length:Nat):Int)):bE C [bQ C ins rows outs,.int w]=some (LI (cO ins rows w)):=by
  have fi:=pH (C:=C) (ins:=ins) (rows:=rows) (outs:=outs) (fa:=aB 0) (env:=[some (false,bQ C ins rows outs),some (false,.int w)]) rfl
  have fr:=pG (C:=C) (ins:=ins) (rows:=rows) (outs:=outs) (fa:=aB 0) (env:=[some (false,bQ C ins rows outs),some (false,.int w)]) rfl
  refine cA ?_
  show jC C [some (false,bQ C ins rows outs),some (false,.int w)]=_
  unfold jC cO
  by_cases h:w < (ins:Int)
  . have h':¬ (ins:Int) <= w:=by omega
    rw [if_pos h]
    refine sNo (by clear fr;walk_at "ev") rfl
  . have h':(ins:Int) <= w:=by omega
    have hk:(w - (ins:Int)).toNat < rows.length:=by omega
    have hr1:=List.getElem?_eq_getElem hk
    generalize rows[(w - (ins:Int)).toNat]=r at hr1
    have ea:=nG hr1 (a:=w - (ins:Int)) (by omega)
    rw [if_neg h,hr1]
    cases r with
    | fix b =>
      have e1:=Z23
      simp only [Row.d] at ea
      refine C0 (by walk_at "ev") (sF ?_)
      simp only [LI,List.map_cons,List.map_nil]
      walk_at "ev"
    | not a =>
      have e1:=R4
      simp only [Row.d] at ea
      exact sNo (by walk_at "ev") rfl
    | bin k a b =>
      have e1:=R5 k
      simp only [Row.d] at ea
      exact sNo (by walk_at "ev") rfl
theorem Z5F {a b:Int}{n:Nat}(h:a - b=(n:Int)) (h1:-1000 <= b) (h2:a <= 1000):A4 [.int a,.int b,.int (-1)]=some ((List.range n).map fun (k:Nat)=>.int (a - (k:Int))):=by
  simp only [A4]
  rw [if_pos (by refine⟨⟨by omega,by omega,by omega,by omega⟩,trivial⟩),h,Int.toNat_natCast]
theorem U8 {C:Addr}{ins:Nat}{rows:List Row}{outs:List Int}(hs:ins + rows.length < 64) (hl:outs.length <= 100) (hr:RowsOk ins rows) (ho:∀ a ∈ outs,0 <= a /\ a < ((ins + rows.length:Nat):Int)) :
    lF C [bQ C ins rows outs]=some (LI (mM ins rows outs)):=by
  refine cA ?_
  unfold zH
  refine lW (d:=dKT []) rfl ?_
  refine lD (fW (zO (by rfl))) (fun i env=>∃ a,env=[some (false,bQ C ins rows outs),some (true,dKT (fG [] (outs.take i))),a,none,none]) ⟨none,rfl⟩ ?_ ?_
  . rintro i d env hd ⟨a,rfl⟩
    obtain⟨x,hx,rfl⟩:=dM hd
    refine⟨_,_,rfl,sH (ks:=fG [] (outs.take i)) (k:=x) rfl rfl rfl ?_,some (false,.int x),by rw [rD hx];rfl⟩
    have:=oQ (xs:=outs.take i) (ks:=[])
    rw [List.length_take,List.length_nil] at this
    omega
  rintro env ⟨a,rfl⟩
  rw [List.length_map,List.take_length]
  have el:bT [.lst (rows.map Row.d)]=some (.int (rows.length:Int)):=by simp only [bT,List.length_map]
  refine lD (ds:=(List.range rows.length).map fun (k:Nat)=>.int (((ins + rows.length:Nat):Int) - 1 - (k:Int))) (eL (xs:=[.int (((ins + rows.length:Nat):Int) - 1),.int ((ins:Int) - 1),.int (-1)]) ?_ (Z5F (by omega) (by omega) (by omega)))
    (fun i env=>∃ a b c,env=[some (false,bQ C ins rows outs),some (true,dKT (gI ins rows outs i)),a,b,c]) ⟨a,none,none,rfl⟩ ?_ ?_
  . have fi:=pH (C:=C) (ins:=ins) (rows:=rows) (outs:=outs) (fa:=aB 0) (env:=[some (false,bQ C ins rows outs),some (true,dKT (fG [] outs)),a,none,none]) rfl
    have fr:=pG (C:=C) (ins:=ins) (rows:=rows) (outs:=outs) (fa:=aB 0) (env:=[some (false,bQ C ins rows outs),some (true,dKT (fG [] outs)),a,none,none]) rfl
    rw [show ((ins + rows.length:Nat):Int)=(ins:Int) + (rows.length:Int) by omega]
    clear hr ho hs hl
    walk_at "ev"
  . rintro i d env hd ⟨a,b,c,rfl⟩
    obtain⟨hi,rfl⟩:=eM hd
    have hnl:=vJ hr ho i
    by_cases hw:(((ins + rows.length:Nat):Int) - 1 - (i:Int)) ∈ gI ins rows outs i
    . generalize hW:((ins + rows.length:Nat):Int) - 1 - (i:Int)=W at *
      have so:=nY (C:=C) (ins:=ins) (rows:=rows) (outs:=outs) (w:=W) (by omega)
      have hll:=iM (ins:=ins) (rows:=rows) (w:=W)
      obtain⟨env',h1,⟨z,rfl⟩⟩:=yM (rs:=[]) (src:=dW (aQ (cE C) [] (aC (aB 0) (aC (aB 3) aL)))) (t:=gtN 4) (g:=sI 1 (aB 4) (fC (.bl true))) (env:=[some (false,bQ C ins rows outs),some (true,dKT (gI ins rows outs i)),a,some (false,.int W),c]) (ds:=(bD ins rows W).map D.int)
        (fW (aP (xs:=[bQ C ins rows outs,.int W]) rfl so))
        (fun j env=>∃ z,env=[some (false,bQ C ins rows outs),some (true,dKT (fG (gI ins rows outs i) ((bD ins rows W).take j))),a,some (false,.int W),z]) ⟨c,rfl⟩ (by
          rintro j d env hd ⟨z,rfl⟩
          obtain⟨x,hx,rfl⟩:=dM hd
          refine⟨_,_,rfl,sH (ks:=fG (gI ins rows outs i) ((bD ins rows W).take j)) (k:=x) rfl rfl rfl ?_,some (false,.int x),by rw [rD hx];rfl⟩
          have:=oQ (xs:=(bD ins rows W).take j) (ks:=gI ins rows outs i)
          rw [List.length_take] at this
          omega)
      rw [List.length_map,List.take_length] at h1
      refine⟨_,_,rfl,R8 ?_ h1,a,some (false,.int W),z,?_⟩
      . show J8 (aB 3) (aB 1) [some (false,bQ C ins rows outs),some (true,dKT (gI ins rows outs i)),a,some (false,.int W),c]=some true
        simp only [ev_InK,ev_var,List.getElem?_cons_zero,List.getElem?_cons_succ,Option.join_some,Option.map_some,dKT,keyOf,zA,hw,decide_true]
      . simp only [gI]
        rw [hW,if_pos hw]
    . generalize hW:((ins + rows.length:Nat):Int) - 1 - (i:Int)=W at *
      refine⟨_,_,rfl,C2 ?_ rfl,a,some (false,.int W),c,?_⟩
      . show J8 (aB 3) (aB 1) [some (false,bQ C ins rows outs),some (true,dKT (gI ins rows outs i)),a,some (false,.int W),c]=some false
        simp only [ev_InK,ev_var,List.getElem?_cons_zero,List.getElem?_cons_succ,Option.join_some,Option.map_some,dKT,keyOf,zA,hw,decide_false]
      . simp only [gI]
        rw [hW,if_neg hw]
        rfl
  rintro env ⟨a,b,c,rfl⟩
  rw [List.length_map,List.length_range]
  have hnl:=vJ hr ho rows.length
  refine fD (jD (xs:=[dKT (gI ins rows outs rows.length)]) rfl ?_)
  unfold xT dKT
  simp only [E8]
  rw [if_pos (by omega)]
  rfl
theorem Y6 {ins:Nat}{rows:List Row}{C:Addr}{outs:List Int}{w:Int}{base:List D}(hb:base.length <= 900) (a3 a4 a5:Slot) (so:bE C [bQ C ins rows outs,.int w]=some (LI (cO ins rows w))) :
    ∃ z,dR [] (dW (aQ (bE C) [] (aC (aB 0) (aC (aB 2) aL)))) (gtN 3) (iW 1 (kF (aC (fC (.str "wire")) (aC (bF (aB 2)) (aC (bF (aB 3)) aL)))))
      [some (false,bQ C ins rows outs),some (true,.lst base),some (false,.int w),a3,a4,a5]=.next [some (false,bQ C ins rows outs),some (true,.lst (base ++ ((cO ins rows w).map fun b=>Flt.wire w b).map Flt.d)),some (false,.int w),z,a4,a5]:=by
  have hbl:=gU (ins:=ins) (rows:=rows) (w:=w)
  obtain⟨env',h1,⟨z,rfl⟩⟩:=yM (rs:=[]) (src:=dW (aQ (bE C) [] (aC (aB 0) (aC (aB 2) aL)))) (t:=gtN 3) (g:=iW 1 (kF (aC (fC (.str "wire")) (aC (bF (aB 2)) (aC (bF (aB 3)) aL)))))
    (env:=[some (false,bQ C ins rows outs),some (true,.lst base),some (false,.int w),a3,a4,a5]) (ds:=(cO ins rows w).map D.int) (fW (aP (xs:=[bQ C ins rows outs,.int w]) rfl so))
    (fun j env=>∃ z,env=[some (false,bQ C ins rows outs),some (true,.lst (base ++ (((cO ins rows w).take j).map fun b=>Flt.wire w b).map Flt.d)),some (false,.int w),z,a4,a5]) ⟨a3,by simp [PD.fz]⟩ (by
      rintro j d env hd ⟨z,rfl⟩
      obtain⟨x,hx,rfl⟩:=dM hd
      refine⟨_,_,rfl,lX (d:=(Flt.wire w x).d) rfl rfl ?_,some (false,.int x),?_⟩
      . rw [List.length_append,List.length_map,List.length_map,List.length_take];omega
      . rw [bS hx];simp only [List.map_append,List.map_cons,List.map_nil,<- List.append_assoc];rfl)
  rw [List.length_map,List.take_length] at h1
  exact⟨z,h1⟩
theorem Z1L {ins:Nat}{rows:List Row}{C:Addr}{outs:List Int}{w:Int}{base:List D}(hb:base.length <= 900) (a3 a4 a5:Slot) (sl:cE C [bQ C ins rows outs,.int w]=some (LI (bD ins rows w))) (so:∀ a ∈ bD ins rows w,bE C [bQ C ins rows outs,.int a]=some (LI (cO ins rows a))) :
    ∃ x y z,dR [] (sB1 wD (aC (aQ (cE C) [] (aC (aB 0) (aC (aB 2) aL))) aL)) (gtT [4,5]) (dR [] (dW (aQ (bE C) [] (aC (aB 0) (aC (aB 5) aL)))) (gtN 3) (iW 1 (kF (aC (fC (.str "leg")) (aC (bF (aB 2)) (aC (bF (aB 4)) (aC (bF (aB 3)) aL)))))))
      [some (false,bQ C ins rows outs),some (true,.lst base),some (false,.int w),a3,a4,a5]=.next [some (false,bQ C ins rows outs),some (true,.lst (base ++ (bL ins rows w 0 (bD ins rows w)).map Flt.d)),some (false,.int w),x,y,z]:=by
  have hll:=iM (ins:=ins) (rows:=rows) (w:=w)
  obtain⟨env',h1,⟨x,y,z,rfl⟩⟩:=yM (rs:=[]) (src:=sB1 wD (aC (aQ (cE C) [] (aC (aB 0) (aC (aB 2) aL))) aL)) (t:=gtT [4,5]) (g:=dR [] (dW (aQ (bE C) [] (aC (aB 0) (aC (aB 5) aL)))) (gtN 3) (iW 1 (kF (aC (fC (.str "leg")) (aC (bF (aB 2)) (aC (bF (aB 4)) (aC (bF (aB 3)) aL)))))))
    (env:=[some (false,bQ C ins rows outs),some (true,.lst base),some (false,.int w),a3,a4,a5]) (ds:=((bD ins rows w).map D.int).mapIdx fun i d=>.tup [.int i,d]) (eL (xs:=[LI (bD ins rows w)]) (aW (aP (xs:=[bQ C ins rows outs,.int w]) rfl sl) rfl) (by simp only [wD,LI]))
    (fun j env=>∃ x y z,env=[some (false,bQ C ins rows outs),some (true,.lst (base ++ (bL ins rows w 0 ((bD ins rows w).take j)).map Flt.d)),some (false,.int w),x,y,z]) ⟨a3,a4,a5,by simp [PD.fz,bL]⟩ (by
      rintro j d env hd ⟨x,y,z,rfl⟩
      obtain⟨e,he,rfl⟩:=E2 hd
      obtain⟨a,ha,rfl⟩:=dM he
      have sa:=so a (List.mem_of_getElem? ha)
      have hbl:=gU (ins:=ins) (rows:=rows) (w:=a)
      have hfl:=iS (ins:=ins) (rows:=rows) (w:=w) ((bD ins rows w).take j) 0
      rw [List.length_take] at hfl
      generalize hB:base ++ (bL ins rows w 0 ((bD ins rows w).take j)).map Flt.d=B at *
      have hBl:B.length <= 950:=by rw [<- hB,List.length_append,List.length_map];omega
      obtain⟨env',h1,⟨z',rfl⟩⟩:=yM (rs:=[]) (src:=dW (aQ (bE C) [] (aC (aB 0) (aC (aB 5) aL)))) (t:=gtN 3) (g:=iW 1 (kF (aC (fC (.str "leg")) (aC (bF (aB 2)) (aC (bF (aB 4)) (aC (bF (aB 3)) aL))))))
        (env:=[some (false,bQ C ins rows outs),some (true,.lst B),some (false,.int w),x,some (false,.int j),some (false,.int a)]) (ds:=(cO ins rows a).map D.int) (fW (aP (xs:=[bQ C ins rows outs,.int a]) rfl sa))
        (fun l env=>∃ z',env=[some (false,bQ C ins rows outs),some (true,.lst (B ++ (((cO ins rows a).take l).map fun b=>Flt.leg w (j:Int) b).map Flt.d)),some (false,.int w),z',some (false,.int j),some (false,.int a)]) ⟨x,by simp [PD.fz]⟩ (by
          rintro l d env hd ⟨z',rfl⟩
          obtain⟨b,hb',rfl⟩:=dM hd
          refine⟨_,_,rfl,lX (d:=(Flt.leg w (j:Int) b).d) rfl rfl ?_,some (false,.int b),?_⟩
          . rw [List.length_append,List.length_map,List.length_map,List.length_take];omega
          . rw [bS hb'];simp only [List.map_append,List.map_cons,List.map_nil,<- List.append_assoc];rfl)
      rw [List.length_map,List.take_length] at h1
      refine⟨_,_,rfl,h1,z',some (false,.int j),some (false,.int a),?_⟩
      rw [mY ha,List.map_append,<- List.append_assoc,hB])
  rw [List.length_mapIdx,List.length_map,List.take_length] at h1
  exact⟨x,y,z,h1⟩
theorem kX {C:Addr}{ins:Nat}{rows:List Row}{outs:List Int}(hs:ins + rows.length < 64) (hl:outs.length <= 100) (hr:RowsOk ins rows) (ho:∀ a ∈ outs,0 <= a /\ a < ((ins + rows.length:Nat):Int)) :
    cY C [bQ C ins rows outs]=some (.lst ((cF ins rows outs).map Flt.d)):=by
  have nd:=U8 (C:=C) hs hl hr ho
  have nb:=qR hr ho
  have nl:=vI hr ho
  refine cA ?_
  unfold pF cF
  generalize mM ins rows outs=N at *
  refine lW (d:=.lst []) rfl ?_
  refine lD (ds:=N.map D.int) (fW (aP (xs:=[bQ C ins rows outs]) rfl nd))
    (fun i env=>∃ a b c d,env=[some (false,bQ C ins rows outs),some (true,.lst (((N.take i).flatMap (bR ins rows)).map Flt.d)),a,b,c,d]) ⟨none,none,none,none,rfl⟩ ?_ ?_
  . rintro i d env hd ⟨a,b,c,e,rfl⟩
    obtain⟨w,hw,rfl⟩:=dM hd
    have hwb:=nb w (List.mem_of_getElem? hw)
    have hil:i < N.length:=(List.getElem?_eq_some_iff.mp hw).1
    have fl:=pI (ins:=ins) (rows:=rows) (N.take i)
    rw [List.length_take] at fl
    rw [W7 hw]
    generalize hB:(N.take i).flatMap (bR ins rows)=B at *
    have hBl:(B.map Flt.d).length <= 400:=by rw [List.length_map];omega
    obtain⟨z,h1⟩:=Y6 (C:=C) (outs:=outs) (w:=w) (base:=B.map Flt.d) (by omega) b c e (lP hwb.2)
    have hbl:=gU (ins:=ins) (rows:=rows) (w:=w)
    obtain⟨x',y',z',h2⟩:=Z1L (C:=C) (outs:=outs) (w:=w) (base:=B.map Flt.d ++ ((cO ins rows w).map fun b=>Flt.wire w b).map Flt.d) (by rw [List.length_append,List.length_map,List.length_map,List.length_map];rw [List.length_map] at hBl;omega) z c e (nY hwb.2)
      (fun a ha=>lP (by have:=jU hr ha;omega))
    refine⟨_,_,rfl,Z21 h1 h2,some (false,.int w),x',y',z',?_⟩
    unfold bR
    simp only [List.map_append,List.append_assoc]
  . rintro env ⟨a,b,c,e,rfl⟩
    rw [List.length_map,List.take_length]
    rfl
theorem qI (fs:List Flt):flats (fs.map Flt.d)=true:=lL fun d hd=>by
  obtain⟨f,_,rfl⟩:=List.mem_map.mp hd;exact nE f
theorem oJ {i j:Nat}{f:En->Option D}{env:En}{xs ys:List D}(e1:env[j]? = some (some (true,.lst xs))) (e2:f env=some (.lst ys)) (h1:flats xs=true) (h2:xs.length + ys.length <= 1000):iA i j f env=.next (env.set i (some (true,.lst (xs ++ ys)))):=by
  unfold iA;simp only [e1,e2,h1,h2,and_self,if_true]
theorem Z47 {C:Addr}{ns:List Int}{k:Int}(h0:0 <= k):jB C [LI ns,.int k]=some (.int (nth ns k)):=by
  have el:bT [.lst (ns.map D.int)]=some (.int (ns.length:Int)):=by simp only [bT,List.length_map]
  unfold jB Z1j
  by_cases h:k < (ns.length:Int)
  . have ea:=gW (vs:=ns) h0 h
    simp only [LI]
    walk_at "ev"
  . have e0:=Z2B (l:=ns) (a:=k) (by omega)
    simp only [LI]
    walk_at "ev"
theorem N2 {C:Addr}{c k:Int}(hc:Builtin.Int.intBits c <= 1048600) (hk:0 <= k) (hk2:k <= 100000):∃ m,0 <= m /\ m < 2147483648 /\ fK C [.int c,.int k]=some (.int m):=by
  have p1:Z3b 10 40:=⟨by decide,by decide,by decide⟩
  have p2:gO 1 (31 * (k % 60)):=mN (by omega) (by omega)
  have p3:gO 1 31:=mN (by decide) (by decide)
  have m1:IntMulOk 31 (k % 60):=nR (by decide) (by decide)
  have m2:IntMulOk c 1103515245:=nQ (by decide) (by decide)
  have m3:IntMulOk 7919 k:=nR (by decide) (by decide)
  have m4:IntMulOk (7919 * k) k:=nQ (by omega) (by omega)
  have q1:(0:Int) < 60:=by decide
  have q2:(0:Int) < 1 * 2 ^ Int.toNat 31:=by decide
  have q3:(0:Int) < 2147483629:=by decide
  have q4:(0:Int) < 2147483587:=by decide
  have q5:(0:Int) < 2147483647:=by decide
  have d1:eR (c - 10 ^ Int.toNat 40) (1 * 2 ^ (31 * (k % 60)).toNat):=tP (by omega)
  by_cases h:(10:Int) ^ Int.toNat 40 <= c
  . refine⟨(c - 10 ^ Int.toNat 40) / (1 * 2 ^ (31 * (k % 60)).toNat) % (1 * 2 ^ Int.toNat 31),Int.emod_nonneg _ (by decide),Int.emod_lt_of_pos _ (by decide),?_⟩
    unfold fK qH
    walk_at "ev"
  . have n0:=Int.emod_nonneg (c * 1103515245 + 7919 * k * k + k) (show (2147483647:Int) ≠ 0 by decide)
    have n1:=Int.emod_lt_of_pos (c * 1103515245 + 7919 * k * k + k) q5
    generalize hA:(c * 1103515245 + 7919 * k * k + k) % 2147483647=A at n0 n1
    have m5:IntMulOk A A:=nR (by omega) (by omega)
    have n2:=Int.emod_nonneg (A * A) (show (2147483629:Int) ≠ 0 by decide)
    have n3:=Int.emod_lt_of_pos (A * A) q3
    generalize hB:A * A % 2147483629=B at n2 n3
    have m6:IntMulOk B 69621:=nQ (by decide) (by decide)
    refine⟨B * 69621 % 2147483587,Int.emod_nonneg _ (by decide),Int.lt_trans (Int.emod_lt_of_pos _ (by decide)) (by decide),?_⟩
    unfold fK qH
    walk_at "ev"
theorem Z2J {C:Addr}{ns:List Int}(hlen:ns.length <= 63) (hb:∀ c ∈ ns,Builtin.Int.intBits c <= 1048576):∃ d,jR C [LI ns,.int 11]=some d /\ ∃ xs:List Int,xs.length=11 /\ (∀ x ∈ xs,0 <= x /\ x < 2147483648) /\ d=LI xs:=by
  refine Z08 ?_
  unfold vO
  have e0:bZ [] (sB1 fJ (aC (aB 1) aL)) fTT (fI0 (fun i j=>.int (i + j)) (fI2 IntMulOk (fun i j=>.int (i * j)) (aB 0) (aB 0)) (fC (.int 1))) [some (false,LI ns),some (false,.int 11),none,none,none,none,none]=some (LI ((List.range 11).map fun (k:Nat)=>(k:Int) * (k:Int) + 1)):=by
    rw [eO (fun (k:Nat)=>.int (k:Int)) (fun (k:Nat)=>.int ((k:Int) * (k:Int) + 1)) (xs:=List.range 11) (eL (xs:=[.int 11]) rfl (Z0a (n:=11) rfl (by decide))) (by decide) (fun k hk=>?_)]
    . simp [LI,Function.comp_def]
    . have:=List.mem_range.mp hk
      have mo:IntMulOk (k:Int) (k:Int):=nR (by omega) (by omega)
      walk_at "ev"
  refine jF e0 ?_
  have e1:=fL ns
  have e2:cutD (ns.map D.int) none (some 63)=ns.map D.int:=(gN (ns.map D.int) 63).trans (List.take_of_length_le (by simpa using hlen))
  refine jF (d:=LI ns) (by simp only [LI];walk_at "ev") ?_
  have el:bT [.lst (ns.map D.int)]=some (.int (ns.length:Int)):=by simp only [bT,List.length_map]
  refine oS (ds:=(List.range (ns.length - 2)).map fun (k:Nat)=>.int (2 + (k:Int))) (eL (xs:=[.int 2,.int (ns.length:Int)]) (by simp only [LI];walk_at "ev") (Z5G (by omega) (by decide) (by decide) (by omega) (by omega)))
    (fun i env=>∃ xs a b c,xs.length=11 /\ (∀ x ∈ xs,0 <= x /\ x < 2147483648) /\ env=[some (false,LI ns),some (false,.int 11),some (true,LI xs),some (true,LI ns),a,b,c]) ⟨_,none,none,none,by simp,?_,rfl⟩ ?_ ?_
  . intro x hx
    obtain⟨k,hk,rfl⟩:=List.mem_map.mp hx
    have hk:=List.mem_range.mp hk
    have h1:(k:Int) * (k:Int) <= 11 * 11:=Int.mul_le_mul (by omega) (by omega) (by omega) (by omega)
    have h2:0 <= (k:Int) * (k:Int):=Int.mul_nonneg (by omega) (by omega)
    omega
  . rintro i d env R hd ⟨xs,a,b,c,hx,hall,rfl⟩ hR
    obtain⟨hi,rfl⟩:=eM hd
    refine⟨_,rfl,?_⟩
    have q11:(0:Int) < 11:=by decide
    have z0:=Int.emod_nonneg (2 + (i:Int)) (show (11:Int) ≠ 0 by decide)
    have z1:=Int.emod_lt_of_pos (2 + (i:Int)) q11
    generalize hz:(2 + (i:Int)) % 11=z at z0 z1
    refine jF (d:=.int z) (by clear hR hall e0 e1 e2 el hb;walk_at "ev") ?_
    have a1:=gW (vs:=xs) (a:=z) z0 (by omega)
    have a2:=gW (vs:=ns) (a:=2 + (i:Int)) (by omega) (by omega)
    have hm1:=wV (vs:=xs) (a:=z) z0 (by omega)
    have hm2:=wV (vs:=ns) (a:=2 + (i:Int)) (by omega) (by omega)
    obtain⟨m,m0,m1,em⟩:=N2 (C:=C) (c:=nth ns (2 + (i:Int))) (k:=2 + (i:Int)) (Nat.le_trans (hb _ hm2) (by decide)) (by omega) (by omega)
    have mo:IntMulOk (nth xs z) 31:=nQ (by decide) (by decide)
    refine jF (d:=.int (nth xs z * 31 + m)) (by simp only [LI];clear hR hall e0 e1 e2 el hb hm1 hm2;walk_at "ev") ?_
    have q3:(0:Int) < 2147483629:=by decide
    refine Z4r (d:=.int ((nth xs z * 31 + m) % 2147483629)) (j:=z) (ds:=xs.map D.int) (by clear hR hall e0 e1 e2 el hb hm1 hm2 em a1 a2;walk_at "ev") rfl rfl z0 (by rw [List.length_map];omega) (fL _) rfl ?_
    refine hR _ ⟨xs.set z.toNat ((nth xs z * 31 + m) % 2147483629),_,_,_,by simpa using hx,Z2A _ hall ?_,by simp only [LI,List.map_set];rfl⟩
    have y0:=Int.emod_nonneg (nth xs z * 31 + m) (show (2147483629:Int) ≠ 0 by decide)
    have y1:=Int.emod_lt_of_pos (nth xs z * 31 + m) q3
    omega
  . rintro env ⟨xs,a,b,c,hx,hall,rfl⟩
    exact Z3 rfl ⟨_,rfl,xs,hx,hall,rfl⟩
theorem Z4Z (x:Int):∃ k:Kd,atI [D.str "and",.str "or",.str "xor",.str "and"] (x % 4)=some (.str k.s):=by
  have h0:=Int.emod_nonneg x (show (4:Int) ≠ 0 by decide)
  have h1:=Int.emod_lt_of_pos x (show (0:Int) < 4 by decide)
  generalize x % 4=y at *
  have:y=0 \/ y=1 \/ y=2 \/ y=3:=by omega
  rcases this with rfl | rfl | rfl | rfl
  . exact⟨.and,rfl⟩
  . exact⟨.or,rfl⟩
  . exact⟨.xor,rfl⟩
  . exact⟨.and,rfl⟩
theorem RowsOk.snoc {ins:Nat}{rows:List Row}{r:Row}(h:RowsOk ins rows) (hr:RowOk ((ins + rows.length:Nat):Int) r):RowsOk ins (rows ++ [r]):=by
  intro k r' e
  by_cases hk:k < rows.length
  . rw [List.getElem?_append_left hk] at e;exact h k r' e
  . rw [List.getElem?_append_right (by omega)] at e
    have:k - rows.length=0:=by
      by_cases z:k - rows.length=0
      . exact z
      . rw [List.getElem?_eq_none (by simp;omega)] at e;cases e
    rw [this] at e
    simp at e
    subst e
    have:k=rows.length:=by omega
    rw [this];exact hr
theorem Z45 {C:Addr}{ins:Nat}{xs:List Int}(hl:xs.length <= 100):∃ d,lG C [.int ins,LI xs]=some d /\ ∃ rows:List Row,RowsOk ins rows /\ rows.length=xs.length /\ d=.lst (rows.map Row.d):=by
  refine Z08 ?_
  unfold zI
  refine jF (d:=.lst []) rfl ?_
  refine oS (ds:=xs.map D.int) rfl (fun i env=>∃ rows a b c e,RowsOk ins rows /\ rows.length=i /\ env=[some (false,.int ins),some (false,LI xs),some (true,.lst (rows.map Row.d)),a,b,c,e])
    ⟨[],none,none,none,none,fun k r h=>(by simp at h),rfl,rfl⟩ ?_ ?_
  . rintro i d env R hd ⟨rows,a,b,c,e,hr,rfl,rfl⟩ hR
    obtain⟨n,hn,rfl⟩:=dM hd
    have hil:=(List.getElem?_eq_some_iff.mp hn).1
    refine⟨_,rfl,?_⟩
    have el:bT [.lst (rows.map Row.d)]=some (.int (rows.length:Int)):=by simp only [bT,List.length_map]
    generalize hA:(ins:Int) + (rows.length:Int)=A
    have hA0:0 <= A:=by omega
    refine jF (d:=.int A) (by clear hR;walk_at "ev") ?_
    have d16:eR n 16:=⟨by decide,by decide⟩
    have d80:eR n 80:=⟨by decide,by decide⟩
    have q16:(0:Int) < 16:=by decide
    have q4:(0:Int) < 4:=by decide
    have q2:(0:Int) < 2:=by decide
    have f1:Z3a [.int A,.int 5]=some (.int (if 5 < A then 5 else A)):=rfl
    generalize hM:(if 5 < A then 5 else A)=M at f1
    have hM1:M <= A /\ 0 <= M /\ (0 < A->0 < M):=by rw [<- hM];split <;> omega
    have f2:Y8 [.int 1,.int M]=some (.int (if M > 1 then M else 1)):=rfl
    generalize hM2:(if M > 1 then M else 1)=M2 at f2
    have hM3:0 < M2 /\ (0 < A->M2 <= A):=by rw [<- hM2];split <;> omega
    have f3:Y8 [.int 1,.int A]=some (.int (if A > 1 then A else 1)):=rfl
    generalize hM4:(if A > 1 then A else 1)=M4 at f3
    have hM5:0 < M4 /\ (0 < A->M4 <= A):=by rw [<- hM4];split <;> omega
    have p2:=hM3.1
    have p4:=hM5.1
    have u0:=Int.emod_nonneg (n / 16) (show M2 ≠ 0 by omega)
    have u1:=Int.emod_lt_of_pos (n / 16) p2
    have v0:=Int.emod_nonneg (n / 80) (show M4 ≠ 0 by omega)
    have v1:=Int.emod_lt_of_pos (n / 80) p4
    refine jF (d:=.int (A - 1 - n / 16 % M2)) (by clear hR hM hM2 hM4 hM1 hM3 hM5 hA el;walk_at "ev") ?_
    refine jF (d:=.int (A - 1 - n / 80 % M4)) (by clear hR hM hM2 hM4 hM1 hM3 hM5 hA el f1 f2;walk_at "ev") ?_
    have hlen:(rows.map Row.d).length <= 1000:=by rw [List.length_map];omega
    have hfin:∀ r:Row,RowOk A r->R (.next [some (false,.int ins),some (false,LI xs),some (true,.lst (rows.map Row.d ++ [r.d])),some (false,.int n),some (true,.int A),some (true,.int (A - 1 - n / 16 % M2)),some (true,.int (A - 1 - n / 80 % M4))]):=by
      intro r hro
      refine hR _ ⟨rows ++ [r],some (false,.int n),some (true,.int A),some (true,.int (A - 1 - n / 16 % M2)),some (true,.int (A - 1 - n / 80 % M4)),hr.snoc (by rw [show ((ins + rows.length:Nat):Int)=A by omega];exact hro),by simp,?_⟩
      simp only [List.map_append,List.map_cons,List.map_nil]
    have w0:=Int.emod_nonneg (n / 16) (show (2:Int) ≠ 0 by decide)
    have w1:=Int.emod_lt_of_pos (n / 16) q2
    obtain⟨kd,hkd⟩:=Z4Z n
    generalize hone:A - 1 - n / 16 % M2=one at *
    generalize htwo:A - 1 - n / 80 % M4=two at *
    by_cases hc:A=0 \/ n % 16=0
    . refine xX (by
        clear hfin hR
        rcases hc with z | z
        . subst z;walk_at "ev"
        . by_cases hz:A=0
          . subst hz;walk_at "ev"
          . walk_at "ev") ?_
      refine xY (d:=(Row.fix (n / 16 % 2)).d) (by clear hfin hR;walk_at "ev";rfl) rfl hlen ?_
      exact hfin (.fix (n / 16 % 2)) (by show _ \/ _;omega)
    . have hz:¬ A=0:=fun z=>hc (.inl z)
      have hz2:¬ n % 16=0:=fun z=>hc (.inr z)
      refine qL (by clear hfin hR;walk_at "ev") ?_
      by_cases h4:n % 16 < 4
      . refine xX (by clear hfin hR;walk_at "ev") ?_
        refine xY (d:=(Row.not one).d) (by clear hfin hR;walk_at "ev";rfl) rfl hlen ?_
        exact hfin (.not one) (by show _ /\ _;omega)
      . refine qL (by clear hfin hR;walk_at "ev") ?_
        refine xY (d:=(Row.bin kd one two).d) (by clear hfin hR;walk_at "ev";rfl) rfl hlen ?_
        exact hfin (.bin kd one two) (by show (_ /\ _) /\ _;omega)
  . rintro env ⟨rows,a,b,c,e,hr,hl',rfl⟩
    exact Z3 rfl ⟨_,rfl,rows,hr,by simpa using hl',rfl⟩
theorem Z46 {C:Addr}{W n:Int}(hW:0 < W):∃ d,lH C [.int W,.int n]=some d /\ ∃ outs:List Int,0 < outs.length /\ outs.length <= 16 /\ (∀ a ∈ outs,0 <= a /\ a < W) /\ d=LI outs:=by
  refine Z08 ?_
  unfold zJ
  refine jF (d:=LI [W - 1]) (by simp only [LI,List.map_cons,List.map_nil];walk_at "ev") ?_
  have q4:(0:Int) < 4:=by decide
  have z0:=Int.emod_nonneg n (show (4:Int) ≠ 0 by decide)
  have z1:=Int.emod_lt_of_pos n q4
  obtain⟨k4,hk4⟩:∃ k:Nat,n % 4=(k:Int):=⟨(n % 4).toNat,by omega⟩
  have hin1:∀ {l:List Int}{v:Int},(∀ a ∈ l,0 <= a /\ a < W)->0 <= v->v < W->∀ a ∈ l ++ [v],0 <= a /\ a < W:=by
    intro l v h1 h2 h3 a ha
    rcases List.mem_append.mp ha with z | z
    . exact h1 a z
    . have:a=v:=by simpa using z
      subst this;exact⟨h2,h3⟩
  refine oS (ds:=(List.range k4).map fun (k:Nat)=>.int (k:Int)) (eL (xs:=[.int (n % 4)]) (by clear hin1 hk4;walk_at "ev") (Z0a hk4 (by omega)))
    (fun i env=>∃ outs a,outs.length=i + 1 /\ (∀ a ∈ outs,0 <= a /\ a < W) /\ env=[some (false,.int W),some (false,.int n),some (true,LI outs),a]) ⟨[W - 1],none,rfl,fun a ha=>(by have h1:a=W - 1:=(by simpa using ha);omega),rfl⟩ ?_ ?_
  . rintro i d env R hd ⟨outs,a,ho,hall,rfl⟩ hR
    obtain⟨hi,rfl⟩:=eM hd
    have dk:eR n ((i:Int) + 4):=K2 (by omega) (by omega)
    have v0:=Int.emod_nonneg (n / ((i:Int) + 4)) (show W ≠ 0 by omega)
    have v1:=Int.emod_lt_of_pos (n / ((i:Int) + 4)) hW
    refine⟨_,rfl,?_⟩
    refine xY (d:=.int (n / ((i:Int) + 4) % W)) (ds:=outs.map D.int) (by clear hR hall hin1 hk4;walk_at "ev") rfl (by rw [List.length_map];omega) ?_
    refine hR _ ⟨outs ++ [n / ((i:Int) + 4) % W],some (false,.int (i:Int)),by simp [ho],hin1 hall v0 v1,?_⟩
    simp only [LI,List.map_append,List.map_cons,List.map_nil]
    rfl
  rintro env ⟨outs,a,ho,hall,rfl⟩
  rw [List.length_map,List.length_range] at ho
  have d64:eR n 64:=⟨by decide,by decide⟩
  have d1024:eR n 1024:=⟨by decide,by decide⟩
  have q16:(0:Int) < 16:=by decide
  have q3:(0:Int) < 3:=by decide
  have ol:outs.length <= 4:=by omega
  refine Z1O (fun e=>∃ outs a,0 < outs.length /\ outs.length <= 16 /\ (∀ a ∈ outs,0 <= a /\ a < W) /\ e=[some (false,.int W),some (false,.int n),some (true,LI outs),a]) ?_ ?_
  . by_cases h:n / 64 % 16=0
    . refine xX (by clear hin1 hall;walk_at "ev") ?_
      have el:bT [.lst (outs.map D.int)]=some (.int (outs.length:Int)):=by simp only [bT,List.length_map]
      have ec:bZ [0,1] (sB1 fJ (aC (fI0 (fun i j=>.int (i - j)) (fC (.int 16)) (fB1 bT (aC (aB 2) aL))) aL)) fTT (fI2 (fun _ j=>0 < j) (fun i j=>.int (i % j)) (fI2 IntMulOk (fun i j=>.int (i * j)) (aB 0) (aB 2)) (aB 1)) [some (false,.int W),some (false,.int n),some (true,LI outs),a]=some (LI ((List.range (16 - outs.length)).map fun (k:Nat)=>(k:Int) * n % W)):=by
        rw [eO (fun (k:Nat)=>.int (k:Int)) (fun (k:Nat)=>.int ((k:Int) * n % W)) (xs:=List.range (16 - outs.length)) (eL (xs:=[.int (16 - (outs.length:Int))]) (by simp only [LI];clear hin1 hall;walk_at "ev") (Z0a (by omega) (by omega))) (by rw [List.length_range];omega) (fun k hk=>?_)]
        . simp [LI,Function.comp_def]
        . have hk:=List.mem_range.mp hk
          have mo:IntMulOk (k:Int) n:=nR (by omega) (by omega)
          show fI2 _ _ _ (aB 1) [some (false,.int (k:Int)),some (false,.int W),some (false,.int n)]=_
          clear hin1 hall
          walk_at "ev"
      refine Z2 (xs:=outs.map D.int) rfl ec (fL _) (by simp;omega) ?_
      refine⟨_,rfl,outs ++ (List.range (16 - outs.length)).map (fun (k:Nat)=>(k:Int) * n % W),a,by simp;omega,by simp;omega,fun b hb=>?_,?_⟩
      . rcases List.mem_append.mp hb with z | z
        . exact hall b z
        . obtain⟨k,_,rfl⟩:=List.mem_map.mp z
          exact⟨Int.emod_nonneg _ (by omega),Int.emod_lt_of_pos _ hW⟩
      . simp only [LI,List.map_append];rfl
    . refine qL (by clear hin1 hall;walk_at "ev") ?_
      exact⟨_,rfl,outs,a,by omega,by omega,hall,rfl⟩
  rintro _ ⟨outs,a,o1,o2,hall,rfl⟩
  refine Z1O (fun e=>∃ outs a,0 < outs.length /\ outs.length <= 16 /\ (∀ a ∈ outs,0 <= a /\ a < W) /\ e=[some (false,.int W),some (false,.int n),some (true,LI outs),a]) ?_ ?_
  . by_cases h:n / 1024 % 3=0
    . refine xX (by clear hin1 hall;walk_at "ev") ?_
      have fo:=fL outs
      refine xW (d:=LI outs.reverse) (by simp only [LI,List.map_reverse];clear hin1 hall;walk_at "ev") ?_
      exact⟨_,rfl,outs.reverse,a,by simpa using o1,by simpa using o2,fun b hb=>hall b (List.mem_reverse.mp hb),rfl⟩
    . refine qL (by clear hin1 hall;walk_at "ev") ?_
      exact⟨_,rfl,outs,a,o1,o2,hall,rfl⟩
  rintro _ ⟨outs,a,o1,o2,hall,rfl⟩
  exact Z3 rfl ⟨_,rfl,outs,o1,o2,hall,rfl⟩
theorem Z2I {C:Addr}{ins i:Nat}(hi:ins <= 8) (h:i < ins):gY C [.int ins,.int i]=some (.int (tab (2 ^ ins) fun g=>decide (g / 2 ^ i % 2=1))):=by
  obtain⟨pb0,pb1⟩:=rO hi
  have pbn:2 ^ ins <= 256:=Int.ofNat_le.mp pb1
  have p1:gO 1 (ins:Int):=mN (by omega) (by omega)
  have p3:gO 1 (i:Int):=mN (by omega) (by omega)
  refine cA ?_
  unfold vN
  refine lW (d:=.int 0) rfl ?_
  refine lD (ds:=(List.range (2 ^ ins)).map fun (k:Nat)=>.int (k:Int)) (eL (xs:=[.int ((1:Int) * 2 ^ (ins:Int).toNat)]) (by clear pb0 pb1 pbn hi h p3;walk_at "ev") (Z0a (lC ins) (by omega)))
    (fun j env=>∃ a,env=[some (false,.int ins),some (false,.int i),some (true,.int (tab j fun g=>decide (g / 2 ^ i % 2=1))),a]) ⟨none,rfl⟩ ?_ ?_
  . rintro g d env hd ⟨a,rfl⟩
    obtain⟨hg,rfl⟩:=eM hd
    have d1:eR (g:Int) ((1:Int) * 2 ^ (i:Int).toNat):=tP (by omega)
    have q2:(0:Int) < 2:=by decide
    have ee:((g:Int) / ((1:Int) * 2 ^ (i:Int).toNat) % 2=1)=(g / 2 ^ i % 2=1):=by
      rw [lC]
      apply propext
      constructor
      . intro z;exact Int.ofNat.inj (by simpa using z)
      . intro z;have:=congrArg (fun (n:Nat)=>(n:Int)) z;simpa using this
    have p4:gO 1 (g:Int):=mN (by omega) (by omega)
    by_cases hb:g / 2 ^ i % 2=1
    . have e5:tab (g + 1) (fun g=>decide (g / 2 ^ i % 2=1))=tab g (fun g=>decide (g / 2 ^ i % 2=1)) + (1:Int) * 2 ^ (g:Int).toNat:=by
        unfold tab;simp only [tabN];simp [hb]
      refine⟨_,_,rfl,R8 (by clear pb0 pb1 pbn hi h p1 hd;walk_at "ev") (wJ (d:=.int (tab g (fun g=>decide (g / 2 ^ i % 2=1)) + (1:Int) * 2 ^ (g:Int).toNat)) (by clear pb0 pb1 pbn hi h p1 hd ee;walk_at "ev")),some (false,.int g),by rw [e5];rfl⟩
    . have e5:tab (g + 1) (fun g=>decide (g / 2 ^ i % 2=1))=tab g (fun g=>decide (g / 2 ^ i % 2=1)):=by
        unfold tab;simp only [tabN];simp [hb]
      refine⟨_,_,rfl,C2 (by clear pb0 pb1 pbn hi h p1 hd;walk_at "ev") rfl,some (false,.int g),by rw [e5];rfl⟩
  . rintro env ⟨a,rfl⟩
    rw [List.length_map,List.length_range]
    rfl
theorem Z2K {C:Addr}{ns:List Int}(hlen:ns.length <= 63) (hb:∀ c ∈ ns,Builtin.Int.intBits c <= 1048576):∃ d,jS C [LI ns]=some d /\ ∃ (ins:Nat) (rows:List Row) (outs:List Int),ins <= 5 /\ RowsOk ins rows /\ rows.length <= 10 /\ 0 < outs.length /\ outs.length <= 16 /\ (∀ a ∈ outs,0 <= a /\ a < ((ins + rows.length:Nat):Int)) /\ 0 < ins + rows.length /\ d=bJ ins rows outs:=by
  refine Z08 ?_
  unfold vP
  have a0:=Z47 (C:=C) (ns:=ns) (k:=0) (by decide)
  have a1:=Z47 (C:=C) (ns:=ns) (k:=1) (by decide)
  generalize nth ns 0=fst at a0
  generalize nth ns 1=snd at a1
  refine jF (d:=.int fst) (aP (xs:=[LI ns,.int 0]) rfl a0) ?_
  have q4:(0:Int) < 4:=by decide
  have q6:(0:Int) < 6:=by decide
  have q11:(0:Int) < 11:=by decide
  have q2:(0:Int) < 2:=by decide
  have d4:eR fst 4:=⟨by decide,by decide⟩
  have d36:eR fst 36:=⟨by decide,by decide⟩
  have d216:eR fst 216:=⟨by decide,by decide⟩
  have u0:=Int.emod_nonneg fst (show (4:Int) ≠ 0 by decide)
  have u1:=Int.emod_lt_of_pos fst q4
  have v0:=Int.emod_nonneg (fst / 4) (show (6:Int) ≠ 0 by decide)
  have v1:=Int.emod_lt_of_pos (fst / 4) q6
  have w0:=Int.emod_nonneg (fst / 216) (show (2:Int) ≠ 0 by decide)
  have w1:=Int.emod_lt_of_pos (fst / 216) q2
  refine Z1O (fun e=>∃ ins:Nat,ins <= 5 /\ e=[some (false,LI ns),some (true,.int fst),some (true,.int ins),none,none,none]) ?_ ?_
  . by_cases h:fst / 36 % 6=5
    . refine xW (d:=.int (fst / 4 % 6)) (by clear hb a0 a1;walk_at "ev";simp only [rL,if_true];walk_at "ev") ?_
      refine⟨_,rfl,(fst / 4 % 6).toNat,by omega,?_⟩
      rw [Int.toNat_of_nonneg v0]
      rfl
    . refine xW (d:=.int (fst % 4)) (by clear hb a0 a1;walk_at "ev";simp only [rL];walk_at "ev") ?_
      refine⟨_,rfl,(fst % 4).toNat,by omega,?_⟩
      rw [Int.toNat_of_nonneg u0]
      rfl
  rintro _ ⟨ins,hi5,rfl⟩
  obtain⟨_,ef,xs,hxl,hxb,rfl⟩:=Z2J (C:=C) hlen hb
  refine jF (d:=LI xs) (aP (xs:=[LI ns,.int 11]) rfl ef) ?_
  have s0:=Int.emod_nonneg snd (show (11:Int) ≠ 0 by decide)
  have s1:=Int.emod_lt_of_pos snd q11
  obtain⟨k,hk⟩:∃ k:Nat,snd % 11=(k:Int):=⟨(snd % 11).toNat,by omega⟩
  have e1:=fL xs
  have e2:cutD (xs.map D.int) none (some (k:Int))=(xs.take k).map D.int:=by rw [List.map_take];exact gN (xs.map D.int) k
  obtain⟨_,er,rows,hr,hrl,rfl⟩:=Z45 (C:=C) (ins:=ins) (xs:=xs.take k) (by rw [List.length_take];omega)
  have hrl2:rows.length <= 10:=by rw [hrl,List.length_take];omega
  have ep:fSl (aB 3) nF (fP (fI2 (fun _ j=>0 < j) (fun i j=>.int (i % j)) (aQ (jB C) [] (aC (aB 0) (aC (fC (.int 1)) aL))) (fC (.int 11)))) [some (false,LI ns),some (true,.int fst),some (true,.int ins),some (true,LI xs),none,none]=some (LI (xs.take k)):=by
    have:fP (fI2 (fun _ j=>0 < j) (fun i j=>.int (i % j)) (aQ (jB C) [] (aC (aB 0) (aC (fC (.int 1)) aL))) (fC (.int 11))) [some (false,LI ns),some (true,.int fst),some (true,.int ins),some (true,LI xs),none,none]=some (some (k:Int)):=by
      clear hb a0 ef er e1 e2 hxb hr
      walk_at "ev"
    rw [ev_Sl,this]
    simp only [LI,ev_var,ev_NoP,List.getElem?_cons_zero,List.getElem?_cons_succ,Option.join_some,Option.map_some,e1,if_true,e2]
  refine jF (d:=.lst (rows.map Row.d)) (aP (xs:=[.int ins,LI (xs.take k)]) (aW rfl (aW ep rfl)) er) ?_
  refine Z1O (fun e=>∃ rows:List Row,RowsOk ins rows /\ rows.length <= 10 /\ 0 < ins + rows.length /\ e=[some (false,LI ns),some (true,.int fst),some (true,.int ins),some (true,LI xs),some (true,.lst (rows.map Row.d)),none]) ?_ ?_
  . have el:bT [.lst (rows.map Row.d)]=some (.int (rows.length:Int)):=by simp only [bT,List.length_map]
    by_cases h:(ins:Int) + (rows.length:Int)=0
    . refine xX (by clear hb a0 a1 ef er e1 e2 ep hxb hr hrl;walk_at "ev") ?_
      refine xW (d:=.lst [(Row.fix (fst / 216 % 2)).d]) (by clear hb a0 a1 ef er e1 e2 ep hxb hr hrl;walk_at "ev";rfl) ?_
      refine⟨_,rfl,[.fix (fst / 216 % 2)],?_,by simp,by simp,rfl⟩
      intro k' r' e'
      match k',e' with
      | 0,e'=>cases e';show _ \/ _;omega
      | k' + 1,e'=>simp at e'
    . refine qL (by clear hb a0 a1 ef er e1 e2 ep hxb hr hrl;walk_at "ev") ?_
      exact⟨_,rfl,rows,hr,hrl2,by omega,rfl⟩
  clear er hr hrl hrl2
  rintro _ ⟨rows,hr,hrl,hpos,rfl⟩
  have el:bT [.lst (rows.map Row.d)]=some (.int (rows.length:Int)):=by simp only [bT,List.length_map]
  have a10:=gW (vs:=xs) (a:=10) (by decide) (by omega)
  obtain⟨_,eo,outs,o1,o2,ho,rfl⟩:=Z46 (C:=C) (W:=(ins:Int) + (rows.length:Int)) (n:=nth xs 10) (by omega)
  refine jF (d:=LI outs) (aP (xs:=[.int ((ins:Int) + (rows.length:Int)),.int (nth xs 10)]) (by simp only [LI] at *;clear hb a0 a1 ef e1 e2 ep hxb hr eo ho;walk_at "ev") eo) ?_
  have ei:bZ [2] (sB1 fJ (aC (aB 2) aL)) fTT (aQ (gY C) [] (aC (aB 1) (aC (aB 0) aL))) [some (false,LI ns),some (true,.int fst),some (true,.int ins),some (true,LI xs),some (true,.lst (rows.map Row.d)),some (true,LI outs)]=some (LI (inT ins)):=by
    have e7:((List.range ins).map fun (i:Nat)=>D.int (tab (2 ^ ins) fun g=>decide (g / 2 ^ i % 2=1)))=(inT ins).map D.int:=by
      apply List.ext_getElem?
      intro j
      by_cases hj:j < ins
      . rw [List.getElem?_map,List.getElem?_map,nT ins j hj,List.getElem?_range hj];simp only [Option.map_some]
      . rw [List.getElem?_eq_none (by simp;omega),List.getElem?_eq_none (by rw [List.length_map,gF];omega)]
    have e8:=eO (fr:=[2]) (src:=sB1 fJ (aC (aB 2) aL)) (fe:=aQ (gY C) [] (aC (aB 1) (aC (aB 0) aL))) (env:=[some (false,LI ns),some (true,.int fst),some (true,.int ins),some (true,LI xs),some (true,.lst (rows.map Row.d)),some (true,LI outs)])
      (fun (k:Nat)=>.int (k:Int)) (fun (i:Nat)=>.int (tab (2 ^ ins) fun g=>decide (g / 2 ^ i % 2=1))) (xs:=List.range ins) (eL (xs:=[.int (ins:Int)]) rfl (oY (by omega))) (by rw [List.length_range];omega) (fun i hi=>aP (xs:=[.int ins,.int i]) rfl (Z2I (by omega) (List.mem_range.mp hi)))
    rw [e8,e7]
    simp only [LI]
  refine⟨bJ ins rows outs,?_,ins,rows,outs,hi5,hr,hrl,o1,o2,fun a ha=>by have:=ho a ha;omega,hpos,rfl⟩
  exact Z0g (oO rfl (oO rfl (oO rfl (J7 ei rfl)))) (by simp)
theorem Z11 {C:Addr}{n:Nat}{r:Row}{w l:Int}{vs:List Int}{f:Flt}(hl:l=0 /\ 0 < r.ws.length \/ l=1 /\ 1 < r.ws.length) (hw:∀ a ∈ r.ws,0 <= a /\ a < vs.length) (hb:∀ w l b,f=.leg w l b->b=0 \/ b=1) :
    mD C [LI vs,r.d,.int l,f.d,.int w,.int (aZ n)]=some (.int (qA r w l vs (aZ n) f)):=by
  have key:bF (fIx (aB 0) (fIx (aB 1) (fI0 (fun i j=>.int (i + j)) (aB 2) (fC (.int 1))))) [some (false,LI vs),some (false,r.d),some (false,.int l),some (false,f.d),some (false,.int w),some (false,.int (aZ n))]=some (.int (nth vs (nth r.ws l))):=by
    cases r with
    | fix b=>simp [Row.ws] at hl
    | not a =>
      rcases hl with ⟨rfl,_⟩ | ⟨_,h⟩
      . have ha:=hw a (by simp [Row.ws])
        have ea:=gW ha.1 ha.2
        have en:nth (Row.not a).ws 0=a:=rfl
        simp only [LI,Row.d]
        walk_at "ev"
      . simp [Row.ws] at h
    | bin k a b =>
      rcases hl with ⟨rfl,_⟩ | ⟨rfl,_⟩
      . have ha:=hw a (by simp [Row.ws])
        have ea:=gW ha.1 ha.2
        have en:nth (Row.bin k a b).ws 0=a:=rfl
        simp only [LI,Row.d]
        walk_at "ev"
      . have ha:=hw b (by simp [Row.ws])
        have ea:=gW ha.1 ha.2
        have en:nth (Row.bin k a b).ws 1=b:=rfl
        simp only [LI,Row.d]
        walk_at "ev"
  refine cA ?_
  unfold O1
  cases f with
  | none =>
    refine sNo ?_ (fD key)
    simp only [Flt.d]
    rfl
  | wire w' b =>
    have e1:=Z3B
    have ef:flats [.str "wire",.int w',.int b]=true:=rfl
    have ec:cutD [.str "wire",.int w',.int b] none (some 3)=[.str "wire",.int w',.int b]:=gN _ 3
    refine sNo ?_ (fD key)
    simp only [Flt.d]
    clear key hl hw hb
    walk_at "ev"
    try simp
  | leg w' l' b =>
    have e1:=Z4G
    have ef:flats [.str "leg",.int w',.int l',.int b]=true:=rfl
    have ec:cutD [.str "leg",.int w',.int l',.int b] none (some 3)=[.str "leg",.int w',.int l']:=gN _ 3
    have e2:kG (uM true (aB 3)) (fEq (J6 (aB 3) nF (fP (fC (.int 3)))) (kF (aC (fC (.str "leg")) (aC (aB 4) (aC (aB 2) aL))))) [some (false,LI vs),some (false,r.d),some (false,.int l),some (false,(Flt.leg w' l' b).d),some (false,.int w),some (false,.int (aZ n))]=some (decide (w'=w /\ l'=l)):=by
      simp only [Flt.d]
      clear key hl hw hb
      by_cases h1:w'=w
      . by_cases h2:l'=l
        . subst h1;subst h2;walk_at "ev";try simp
        . subst h1;walk_at "ev";try simp [h2]
      . walk_at "ev";try simp [h1]
    by_cases h:w'=w /\ l'=l
    . rw [decide_eq_true h] at e2
      have mo:IntMulOk (aZ n) b:=pO (hb _ _ _ rfl)
      refine C0 e2 (sF ?_)
      simp only [qA,if_pos h,Flt.d]
      clear e1 e2 key
      walk_at "ev"
    . rw [decide_eq_false h] at e2
      refine sNo e2 ?_
      simp only [qA,if_neg h]
      exact fD key
theorem zC {C:Addr}{n:Nat}{r:Row}{w k:Int}{vs:List Int}{f:Flt}(hr:RowOk k r) (hn:k <= vs.length) (hv:∀ a,IsT n (nth vs a)) (hb:∀ w l b,f=.leg w l b->b=0 \/ b=1) (hf:∀ w' l' b,f=.leg w' l' b->w'=w->0 <= l' /\ l' < r.ws.length) :
    cW C [LI vs,r.d,f.d,.int w,.int (aZ n)]=some (.int (iO r (legs r w vs (aZ n) f) (aZ n))):=by
  have hw:∀ a ∈ r.ws,0 <= a /\ a < vs.length:=fun a ha=>by have:=hr.ws a ha;omega
  cases r with
  | fix b =>
    have e1:=Z23
    have mo:IntMulOk (aZ n) b:=pO hr
    unfold cW iT
    simp only [Row.d,iO]
    clear hv hb hf hw hr
    walk_at "ev"
  | not a =>
    have h0:=Z11 (C:=C) (n:=n) (w:=w) (l:=0) (f:=f) (.inl ⟨rfl,by simp [Row.ws]⟩) hw hb
    have k0:=pZ (w:=w) (l:=0) (o:=aZ n) (vs:=vs) (.inl ⟨rfl,by simp [Row.ws]⟩) hf
    have e1:=R4
    have e2:=Z5D
    have g1:=Z2M (Z0Y (r:=.not a) (w:=w) (l:=0) hv hb)
    have g2:iO (.not a) (legs (.not a) w vs (aZ n) f) (aZ n)=aZ n - qA (.not a) w 0 vs (aZ n) f:=by rw [<- g1,<- k0];rfl
    rw [g2]
    generalize qA (Row.not a) w 0 vs (aZ n) f=x at *
    unfold cW iT
    simp only [Row.d] at h0 ⊢
    clear g1 g2 k0 hf hb hv hr hw
    walk_at "ev"
  | bin kd a b =>
    have h0:=Z11 (C:=C) (n:=n) (w:=w) (l:=0) (f:=f) (.inl ⟨rfl,by simp [Row.ws]⟩) hw hb
    have k0:=pZ (w:=w) (l:=0) (o:=aZ n) (vs:=vs) (.inl ⟨rfl,by simp [Row.ws]⟩) hf
    have h1:=Z11 (C:=C) (n:=n) (w:=w) (l:=1) (f:=f) (.inr ⟨rfl,by simp [Row.ws]⟩) hw hb
    have k1:=pZ (w:=w) (l:=1) (o:=aZ n) (vs:=vs) (.inr ⟨rfl,by simp [Row.ws]⟩) hf
    have e1:=R5 kd
    have e2:=Z4I kd
    have e3:=Z4J kd
    have e4:=Z4H kd
    have g:iO (.bin kd a b) (legs (.bin kd a b) w vs (aZ n) f) (aZ n)=kdT kd (qA (.bin kd a b) w 0 vs (aZ n) f) (qA (.bin kd a b) w 1 vs (aZ n) f):=by
      rw [<- k0,<- k1]
      cases kd <;> rfl
    rw [g]
    clear g k0 k1 hf hb hv hr hw
    generalize qA (Row.bin kd a b) w 0 vs (aZ n) f=x at *
    generalize qA (Row.bin kd a b) w 1 vs (aZ n) f=y at *
    unfold cW iT
    simp only [Row.d] at h0 h1 ⊢
    cases kd with
    | and=>walk_at "ev";rfl
    | or=>walk_at "ev";rfl
    | xor=>walk_at "ev";rfl
theorem Z2H {C:Addr}{ins:Nat}{rows:List Row}{outs:List Int}{f:Flt}(hi:ins <= 8) (hs:ins + rows.length <= 1000) (hr:RowsOk ins rows) (hf:FltOk ins rows f) :
    jQ C [bJ ins rows outs,f.d]=some (LI (bG ins rows f)):=by
  have hN:=kJ ins rows f
  have hbt:=iV hr hf
  obtain⟨pb0,pb1⟩:=rO hi
  have p1:gO 1 (ins:Int):=mN (by omega) (by omega)
  have p2:gO 1 ((1:Int) * 2 ^ (ins:Int).toNat):=by rw [lC];exact mN pb0 (Int.le_trans pb1 (by decide))
  have ep:(1:Int) * 2 ^ ((1:Int) * 2 ^ (ins:Int).toNat).toNat - 1=aZ (2 ^ ins):=by rw [lC];exact O4 ins
  refine cA ?_
  unfold vM
  have el:bT [.lst (rows.map Row.d)]=some (.int (rows.length:Int)):=by simp only [bT,List.length_map]
  have e0:Z0e [0] (gtT [2,3,4,5]) (aB 0) (enStart 9 [bJ ins rows outs,f.d])=.next [some (false,bJ ins rows outs),some (false,f.d),some (false,.int ins),some (false,.lst (rows.map Row.d)),some (false,LI outs),some (false,LI (inT ins)),none,none,none]:=rfl
  refine Z21 e0 ?_
  refine lW (d:=.int (aZ (2 ^ ins))) (by clear hbt pb0 pb1 hN hi hs hr hf e0;walk_at "ev") ?_
  refine lW (d:=.lst []) rfl ?_
  refine lD (ds:=(List.range (ins + rows.length)).map fun (k:Nat)=>.int (k:Int)) (eL (xs:=[.int ((ins:Int) + (rows.length:Int))]) (by clear hbt pb0 pb1 hN hi hs hr hf p1 p2 ep e0;walk_at "ev") (Z0a (by omega) hs))
    (fun i env=>∃ s,env=[some (false,bJ ins rows outs),some (false,f.d),some (false,.int ins),some (false,.lst (rows.map Row.d)),some (false,LI outs),some (false,LI (inT ins)),some (true,.int (aZ (2 ^ ins))),some (true,LI ((bG ins rows f).take i)),s]) ⟨none,rfl⟩ ?_ ?_
  . rintro i d env hd ⟨s,rfl⟩
    obtain⟨hin,rfl⟩:=eM hd
    have htl:((bG ins rows f).take i).length=i:=by rw [List.length_take];omega
    have hol:(((bG ins rows f).take i).map D.int).length <= 1000:=by rw [List.length_map];omega
    have fin:∀ v,(bG ins rows f)[i]? = some v->Res.next [some (false,bJ ins rows outs),some (false,f.d),some (false,.int ins),some (false,.lst (rows.map Row.d)),some (false,LI outs),some (false,LI (inT ins)),some (true,.int (aZ (2 ^ ins))),some (true,.lst (((bG ins rows f).take i).map D.int ++ [.int v])),some (false,.int i)] =
        .next [some (false,bJ ins rows outs),some (false,f.d),some (false,.int ins),some (false,.lst (rows.map Row.d)),some (false,LI outs),some (false,LI (inT ins)),some (true,.int (aZ (2 ^ ins))),some (true,LI ((bG ins rows f).take (i + 1))),some (false,.int i)]:=by
      intro v hv
      rw [bS hv]
      simp only [LI,List.map_append,List.map_cons,List.map_nil]
    generalize htk:(bG ins rows f).take i=vs at *
    -- the wire's own fault
    have ht:∀ z,kG (uM true (aB 1)) (fEq (J6 (aB 1) nF (fP (fC (.int 2)))) (kF (aC (fC (.str "wire")) (aC (aB 8) aL)))) [some (false,bJ ins rows outs),some (false,f.d),some (false,.int ins),some (false,.lst (rows.map Row.d)),some (false,LI outs),some (false,LI (inT ins)),some (true,.int (aZ (2 ^ ins))),z,some (false,.int i)]=some (oE f (i:Int)):=by
      intro z
      clear hbt pb0 pb1 hN hi hs hr hf p1 p2 ep e0 fin hol hd htl htk
      cases f with
      | none=>rfl
      | leg w l b =>
        have e1:=Z3C
        have ef:flats [.str "leg",.int w,.int l,.int b]=true:=rfl
        have ec:cutD [.str "leg",.int w,.int l,.int b] none (some 2)=[.str "leg",.int w]:=gN _ 2
        simp only [Flt.d]
        walk_at "ev"
        try simp [oE]
      | wire w b =>
        have e1:=Z4F
        simp only [Flt.d]
        by_cases hw:w=(i:Int)
        . subst hw
          have ef:flats [.str "wire",.int (i:Int),.int b]=true:=rfl
          have ec:cutD [.str "wire",.int (i:Int),.int b] none (some 2)=[.str "wire",.int (i:Int)]:=gN _ 2
          walk_at "ev"
          try simp [oE]
        . have ef:flats [.str "wire",.int w,.int b]=true:=rfl
          have ec:cutD [.str "wire",.int w,.int b] none (some 2)=[.str "wire",.int w]:=gN _ 2
          walk_at "ev"
          try simp [oE,hw]
    by_cases hst:∃ b,f=.wire (i:Int) b
    . obtain⟨b,rfl⟩:=hst
      have hv:(bG ins rows (.wire (i:Int) b))[i]? = some (aZ (2 ^ ins) * b):=by
        by_cases h1:i < ins
        . rw [rZ h1];simp only [bP,if_true]
        . have hk:i - ins < rows.length:=by omega
          have hr1:=List.getElem?_eq_getElem hk
          generalize rows[i - ins]=r at hr1
          have hv:=qN (ins:=ins) (f:=.wire (i:Int) b) hr1
          rw [show ins + (i - ins)=i by omega] at hv
          rw [hv];simp only [bP,if_true]
      have mo:IntMulOk (aZ (2 ^ ins)) b:=pO (hf.w _ _ rfl)
      refine⟨_,_,rfl,(R8 ((ht _).trans (by simp [oE])) (lX (d:=.int (aZ (2 ^ ins) * b)) ?_ rfl hol)).trans (fin _ hv),some (false,.int i),rfl⟩
      simp only [Flt.d]
      clear hbt pb0 pb1 hN hi hs hr hf p1 p2 ep e0 fin hol hd htl htk ht hv
      walk_at "ev"
    . have hnw:∀ v,bP v (i:Int) (aZ (2 ^ ins)) f=v:=by
        intro v
        cases f with
        | none=>rfl
        | leg _ _ _=>rfl
        | wire w b =>
          unfold bP
          by_cases hw:w=(i:Int)
          . subst hw;exact absurd ⟨b,rfl⟩ hst
          . simp only [hw,if_false]
      have hfalse:oE f (i:Int)=false:=by
        cases f with
        | none=>rfl
        | leg _ _ _=>rfl
        | wire w b =>
          by_cases hw:w=(i:Int)
          . subst hw;exact absurd ⟨b,rfl⟩ hst
          . simp [oE,hw]
      by_cases h1:i < ins
      . have c1:(i:Int) < (ins:Int):=by omega
        have hv:=rZ (rows:=rows) (f:=f) h1
        rw [hnw] at hv
        have ea:atI ((inT ins).map D.int) (i:Int)=some (.int (tab (2 ^ ins) fun g=>decide (g / 2 ^ i % 2=1))):=by
          rw [gW (by omega) (by rw [gF];omega)]
          exact congrArg (fun z=>some (D.int z)) (iR (nT ins i h1) rfl)
        refine⟨_,_,rfl,(C2 ((ht _).trans (by rw [hfalse])) (R8 ?_ (lX (d:=.int (tab (2 ^ ins) fun g=>decide (g / 2 ^ i % 2=1))) ?_ rfl hol))).trans (fin _ hv),some (false,.int i),rfl⟩
        . clear hbt pb0 pb1 hN hi hs hr hf p1 p2 ep e0 fin hol hd htl htk ht hv ea hnw hfalse hst
          walk_at "ev"
        . simp only [LI]
          clear hbt pb0 pb1 hN hi hs hr hf p1 p2 ep e0 fin hol hd htl htk ht hv hnw hfalse hst
          walk_at "ev"
      . have c1:¬ (i:Int) < (ins:Int):=by omega
        have hk:i - ins < rows.length:=by omega
        have hr1:=List.getElem?_eq_getElem hk
        generalize rows[i - ins]=r at hr1
        have hv:=qN (ins:=ins) (f:=f) hr1
        rw [show ins + (i - ins)=i by omega,hnw,htk] at hv
        have hrow:=hr _ r hr1
        rw [show ins + (i - ins)=i by omega] at hrow
        have ea:=nG hr1 (a:=(i:Int) - (ins:Int)) (by omega)
        have eg:=zC (C:=C) (n:=2 ^ ins) (w:=(i:Int)) (vs:=vs) (f:=f) hrow (by rw [htl];omega) (fun a=>?_) hf.l (fun w' l' b e hw=>hf.leg w' l' b (i - ins) r e hr1 (by rw [hw];omega))
        . refine⟨_,_,rfl,(C2 ((ht _).trans (by rw [hfalse])) (C2 ?_ (lX (d:=.int (iO r (legs r i vs (aZ (2 ^ ins)) f) (aZ (2 ^ ins)))) ?_ rfl hol))).trans (fin _ hv),some (false,.int i),rfl⟩
          . clear hbt pb0 pb1 hN hi hs hr hf p1 p2 ep e0 fin hol hd htl htk ht hv ea hnw hfalse hst eg
            walk_at "ev"
          . clear hbt pb0 pb1 hN hi hs hr hf p1 p2 ep e0 fin hol hd htl htk ht hv hnw hfalse hst
            walk_at "ev"
        . rw [<- htk]
          by_cases ha:a.toNat < i
          . have:nth ((bG ins rows f).take i) a=nth (bG ins rows f) a:=by unfold nth;rw [List.getD,List.getD,List.getElem?_take_of_lt ha]
            rw [this];exact hbt a
          . have:nth ((bG ins rows f).take i) a=0:=by unfold nth;rw [List.getD,List.getElem?_eq_none (by rw [List.length_take];omega)];rfl
            rw [this];exact pD _
  . rintro env ⟨s,rfl⟩
    rw [List.length_map,List.length_range,<- hN,List.take_length]
    rfl
theorem wZ {C:Addr}{ins:Nat}{rows:List Row}{outs:List Int}{f:Flt}(hi:ins <= 8) (hs:ins + rows.length <= 1000) (hr:RowsOk ins rows) (hf:FltOk ins rows f) (hl:outs.length <= 1000) (ho:∀ a ∈ outs,0 <= a /\ a < ((ins + rows.length:Nat):Int)) :
    cN C [bJ ins rows outs,f.d]=some (LI (outs.map (nth (bG ins rows f)))):=by
  have w:=Z2H (C:=C) (outs:=outs) hi hs hr hf
  have hN:=kJ ins rows f
  generalize bG ins rows f=T at *
  refine cA ?_
  unfold nA
  refine lW (aP (xs:=[bJ ins rows outs,f.d]) rfl w) ?_
  refine fD ?_
  rw [eO D.int (fun a=>.int (nth T a)) (xs:=outs) (by rfl) hl (fun a ha=>?_)]
  . simp [LI,Function.comp_def]
  . have h:=ho a ha
    have ea:=gW (vs:=T) (a:=a) h.1 (by rw [hN];exact h.2)
    show bF (fIx (aB 1) (aB 0)) [some (false,.int a),some (true,LI T)]=_
    simp only [LI]
    walk_at "ev"
theorem V2 {C:Addr}{A B outs:List Int}(hl:outs.length <= 1000):fU C [LI (outs.map (nth A)),LI (outs.map (nth B))]=some (.int (mK A B outs)):=by
  have el:bT [LI (outs.map (nth A))]=some (.int (outs.length:Int)):=by simp only [bT,LI,List.length_map]
  refine cA ?_
  unfold qZ
  refine lW (d:=.int 0) rfl ?_
  refine lD (ds:=(List.range outs.length).map fun (k:Nat)=>.int (k:Int)) (eL (xs:=[.int (outs.length:Int)]) (by walk_at "ev") (oY hl))
    (fun i env=>∃ a,env=[some (false,LI (outs.map (nth A))),some (false,LI (outs.map (nth B))),some (true,.int (mK A B (outs.take i))),a]) ⟨none,rfl⟩ ?_ ?_
  . rintro i d env hd ⟨a,rfl⟩
    obtain⟨hi,rfl⟩:=eM hd
    have hx:=List.getElem?_eq_getElem hi
    generalize outs[i]=x at hx
    have ha:atI ((outs.map (nth A)).map D.int) (i:Int)=some (.int (nth A x)):=gH (by simp [hx])
    have hb:atI ((outs.map (nth B)).map D.int) (i:Int)=some (.int (nth B x)):=gH (by simp [hx])
    refine⟨_,_,rfl,wJ (d:=.int (Builtin.bitOr (mK A B (outs.take i)) (Builtin.bitOr (nth A x) (nth B x) - Builtin.bitAnd (nth A x) (nth B x)))) ?_,some (false,.int i),by rw [rY hx];rfl⟩
    simp only [LI]
    clear hd hx el
    walk_at "ev"
  . rintro env ⟨a,rfl⟩
    rw [List.length_map,List.length_range,List.take_length]
    rfl
theorem Z58 {C:Addr}{ins:Nat}{rows:List Row}{outs:List Int}{w:Int}(h1:w < ((ins + rows.length:Nat):Int)):jL C [bJ ins rows outs,.int w]=some (LI (bD ins rows w)):=by
  refine cA ?_
  show xE C [some (false,bJ ins rows outs),some (false,.int w)]=_
  unfold xE bJ
  by_cases h:w < (ins:Int)
  . rw [lI h]
    refine C0 (by walk_at "ev") (sF rfl)
  . have hk:(w - (ins:Int)).toNat < rows.length:=by omega
    have hr1:=List.getElem?_eq_getElem hk
    generalize rows[(w - (ins:Int)).toNat]=r at hr1
    have ea:=nG hr1 (a:=w - (ins:Int)) (by omega)
    rw [mE (by omega) hr1]
    cases r with
    | fix b =>
      have e1:=Z23
      simp only [Row.d] at ea
      exact C0 (by walk_at "ev") (sF rfl)
    | not a =>
      have e1:=R4
      simp only [Row.d] at ea
      refine sNo (by walk_at "ev") (fD ?_)
      simp [ea,fSl,flats,PD.flat,Z33,Z06,iD,LI,Row.ws,atI_0,atI_1]
    | bin k a b =>
      have e1:=R5 k
      simp only [Row.d] at ea
      refine sNo (by walk_at "ev") (fD ?_)
      simp [ea,fSl,flats,PD.flat,Z33,Z06,iD,LI,Row.ws,atI_0,atI_1]
theorem V4 {C:Addr}{ins:Nat}{rows:List Row}{outs:List Int}{w:Int}(h1:w < ((ins + rows.length:Nat):Int)):dB C [bJ ins rows outs,.int w]=some (LI (cO ins rows w)):=by
  refine cA ?_
  show nB C [some (false,bJ ins rows outs),some (false,.int w)]=_
  unfold nB cO bJ
  by_cases h:w < (ins:Int)
  . have h':¬ (ins:Int) <= w:=by omega
    rw [if_pos h]
    exact sNo (by walk_at "ev") rfl
  . have h':(ins:Int) <= w:=by omega
    have hk:(w - (ins:Int)).toNat < rows.length:=by omega
    have hr1:=List.getElem?_eq_getElem hk
    generalize rows[(w - (ins:Int)).toNat]=r at hr1
    have ea:=nG hr1 (a:=w - (ins:Int)) (by omega)
    rw [if_neg h,hr1]
    cases r with
    | fix b =>
      have e1:=Z23
      simp only [Row.d] at ea
      refine C0 (by walk_at "ev") (sF ?_)
      simp only [LI,List.map_cons,List.map_nil]
      walk_at "ev"
    | not a =>
      have e1:=R4
      simp only [Row.d] at ea
      exact sNo (by walk_at "ev") rfl
    | bin k a b =>
      have e1:=R5 k
      simp only [Row.d] at ea
      exact sNo (by walk_at "ev") rfl
theorem Z4N {n:Nat}(h:n <= 1000):A6 [.int (n:Int)]=some ((List.range n).map fun (k:Nat)=>.int ((n:Int) - 1 - (k:Int))):=by
  simp only [A6]
  rw [if_pos ⟨by omega,by omega⟩,Int.toNat_natCast]
theorem Z13 {C:Addr}{ins:Nat}{rows:List Row}{outs:List Int}(hs:ins + rows.length < 64) (hl:outs.length <= 100) (hr:RowsOk ins rows) (ho:∀ a ∈ outs,0 <= a /\ a < ((ins + rows.length:Nat):Int)) :
    iJ C [bJ ins rows outs]=some (.lst ((cF ins rows outs).map Flt.d)):=by
  have el:bT [.lst (rows.map Row.d)]=some (.int (rows.length:Int)):=by simp only [bT,List.length_map]
  have OW:∀ w:Int,w < ((ins + rows.length:Nat):Int)->jL C [bJ ins rows outs,.int w]=some (LI (bD ins rows w)):=fun w h=>Z58 h
  have BO:∀ w:Int,w < ((ins + rows.length:Nat):Int)->dB C [bJ ins rows outs,.int w]=some (LI (cO ins rows w)):=fun w h=>V4 h
  refine cA ?_
  unfold tK
  refine lW (d:=LI outs) (by simp only [bJ,LI];have:=fL outs;simp [iD,this,atI_2,enStart]) ?_
  have es:∀ (a b c d e:Slot),fI0 (fun i j=>.int (i + j)) (fIx (aB 0) (fC (.int 0))) (fB1 bT (aC (fIx (aB 0) (fC (.int 1))) aL)) [some (false,bJ ins rows outs),a,b,c,d,e]=some (.int ((ins + rows.length:Nat):Int)):=by
    intro a b c d e
    rw [show ((ins + rows.length:Nat):Int)=(ins:Int) + (rows.length:Int) by omega]
    simp only [bJ]
    clear OW BO
    walk_at "ev"
  refine lD (ds:=(List.range (ins + rows.length)).map fun (k:Nat)=>.int (((ins + rows.length:Nat):Int) - 1 - (k:Int))) (eL (xs:=[.int ((ins + rows.length:Nat):Int)]) (aW (es _ _ _ _ _) rfl) (Z4N (by omega)))
    (fun i env=>∃ a,env=[some (false,bJ ins rows outs),some (true,LI (fR ins rows outs i)),a,none,none,none]) ⟨none,rfl⟩ ?_ ?_
  . rintro i d env hd ⟨a,rfl⟩
    obtain⟨hi,rfl⟩:=eM hd
    have hwl:=pP (ins:=ins) (rows:=rows) (outs:=outs) i
    generalize hW:((ins + rows.length:Nat):Int) - 1 - (i:Int)=W
    have hin:fIn (aB 2) (aB 1) [some (false,bJ ins rows outs),some (true,LI (fR ins rows outs i)),some (false,.int W),none,none,none]=some (decide (W ∈ fR ins rows outs i)):=by
      show inF (.int W) (LI (fR ins rows outs i))=_
      exact zE
    by_cases hw:W ∈ fR ins rows outs i
    . have ow:=OW W (by omega)
      have hll:=iM (ins:=ins) (rows:=rows) (w:=W)
      refine⟨_,_,rfl,R8 (hin.trans (by simp [hw])) (oJ (xs:=(fR ins rows outs i).map D.int) (ys:=(bD ins rows W).map D.int) rfl (aP (xs:=[bJ ins rows outs,.int W]) rfl ow) (fL _) (by simp;omega)),some (false,.int W),?_⟩
      simp only [fR]
      rw [hW,if_pos hw]
      simp only [LI,List.map_append]
      rfl
    . refine⟨_,_,rfl,C2 (hin.trans (by simp [hw])) rfl,some (false,.int W),?_⟩
      simp only [fR]
      rw [hW,if_neg hw]
      rfl
  rintro env ⟨a,rfl⟩
  rw [List.length_map,List.length_range]
  refine lW (d:=.lst []) rfl ?_
  have hwl:=pP (ins:=ins) (rows:=rows) (outs:=outs) (ins + rows.length)
  have hnr:=D9 hr ho
  have hfl:∀ i,(((gS (ins + rows.length)).take i).filter (fun a=>decide (a ∈ fR ins rows outs (ins + rows.length)))).length <= ins + rows.length:=fun i=>by
    refine Nat.le_trans (List.length_filter_le _ _) ?_
    rw [List.length_take]
    have:(gS (ins + rows.length)).length=ins + rows.length:=by simp [gS]
    omega
  generalize hWt:fR ins rows outs (ins + rows.length)=Wt at *
  refine lD (ds:=(gS (ins + rows.length)).map D.int) ((eL (xs:=[.int ((ins + rows.length:Nat):Int)]) (aW (es _ _ _ _ _) rfl) (oY (by omega))).trans (by
      simp only [gS,List.map_map]
      rfl))
    (fun i env=>∃ a b c,env=[some (false,bJ ins rows outs),some (true,LI Wt),a,some (true,.lst (((((gS (ins + rows.length)).take i).filter (fun a=>decide (a ∈ Wt))).flatMap (bR ins rows)).map Flt.d)),b,c]) ⟨a,none,none,rfl⟩ ?_ ?_
  . rintro i d env hd ⟨a,b,c,rfl⟩
    obtain⟨w,hw,rfl⟩:=dM hd
    have hwb:=rangeI_mem.mp (List.mem_of_getElem? hw)
    have hfl:=hfl i
    have fl:=pI (ins:=ins) (rows:=rows) (((gS (ins + rows.length)).take i).filter (fun a=>decide (a ∈ Wt)))
    rw [bS hw,List.filter_append]
    generalize hB:(((gS (ins + rows.length)).take i).filter (fun a=>decide (a ∈ Wt))).flatMap (bR ins rows)=B at *
    have hBl:(B.map Flt.d).length <= 400:=by rw [List.length_map];omega
    have hin:fIn (aB 2) (aB 1) [some (false,bJ ins rows outs),some (true,LI Wt),some (false,.int w),some (true,.lst (B.map Flt.d)),b,c]=some (decide (w ∈ Wt)):=by
      show inF (.int w) (LI Wt)=_
      exact zE
    by_cases hwW:w ∈ Wt
    . have hbl:=gU (ins:=ins) (rows:=rows) (w:=w)
      have hll:=iM (ins:=ins) (rows:=rows) (w:=w)
      have bw:=BO w hwb.2
      have lw:=OW w hwb.2
      have c1:bZ [2] (dW (aQ (dB C) [] (aC (aB 0) (aC (aB 2) aL)))) fTT (kF (aC (fC (.str "wire")) (aC (bF (aB 1)) (aC (bF (aB 0)) aL)))) [some (false,bJ ins rows outs),some (true,LI Wt),some (false,.int w),some (true,.lst (B.map Flt.d)),b,c]=some (.lst (((cO ins rows w).map fun b=>Flt.wire w b).map Flt.d)):=by
        rw [eO D.int (fun b=>(Flt.wire w b).d) (xs:=cO ins rows w) (fW (aP (xs:=[bJ ins rows outs,.int w]) rfl bw)) (by omega) (fun x _=>rfl),List.map_map]
        rfl
      have h1:=oJ (i:=3) (j:=3) (env:=[some (false,bJ ins rows outs),some (true,LI Wt),some (false,.int w),some (true,.lst (B.map Flt.d)),b,c]) rfl c1 (qI B) (by simp only [List.length_map] at *;omega)
      rw [<- List.map_append] at h1
      generalize hB2:B ++ (cO ins rows w).map (fun b=>Flt.wire w b)=B2 at *
      have hB2l:(B2.map Flt.d).length <= 410:=by rw [<- hB2,List.length_map,List.length_append,List.length_map];rw [List.length_map] at hBl;omega
      have e2:bV 4 (aQ (jL C) [] (aC (aB 0) (aC (aB 2) aL))) [some (false,bJ ins rows outs),some (true,LI Wt),some (false,.int w),some (true,.lst (B2.map Flt.d)),b,c]=.next [some (false,bJ ins rows outs),some (true,LI Wt),some (false,.int w),some (true,.lst (B2.map Flt.d)),some (true,LI (bD ins rows w)),c]:=wJ (aP (xs:=[bJ ins rows outs,.int w]) rfl lw)
      have elg:bT [LI (bD ins rows w)]=some (.int ((bD ins rows w).length:Int)):=by simp only [bT,LI,List.length_map]
      obtain⟨env',h2,⟨x,rfl⟩⟩:=yM (rs:=[]) (src:=sB1 fJ (aC (fB1 bT (aC (aB 4) aL)) aL)) (t:=gtN 5) (g:=iA 3 3 (bZ [2,5] (dW (aQ (dB C) [] (aC (aB 0) (aC (fIx (aB 4) (aB 5)) aL)))) fTT (kF (aC (fC (.str "leg")) (aC (bF (aB 1)) (aC (bF (aB 2)) (aC (bF (aB 0)) aL)))))))
        (env:=[some (false,bJ ins rows outs),some (true,LI Wt),some (false,.int w),some (true,.lst (B2.map Flt.d)),some (true,LI (bD ins rows w)),c]) (ds:=(List.range (bD ins rows w).length).map fun (k:Nat)=>.int (k:Int)) (eL (xs:=[.int ((bD ins rows w).length:Int)]) (aW (jD (xs:=[LI (bD ins rows w)]) rfl elg) rfl) (oY (by omega)))
        (fun j env=>∃ x,env=[some (false,bJ ins rows outs),some (true,LI Wt),some (false,.int w),some (true,.lst ((B2 ++ bL ins rows w 0 ((bD ins rows w).take j)).map Flt.d)),some (true,LI (bD ins rows w)),x]) ⟨c,by simp [PD.fz,bL]⟩ (by
          rintro j d env hd ⟨x,rfl⟩
          obtain⟨hj,rfl⟩:=eM hd
          have ha:=List.getElem?_eq_getElem hj
          generalize (bD ins rows w)[j]=a' at ha
          have hab:=jU hr (List.mem_of_getElem? ha)
          have ea:atI ((bD ins rows w).map D.int) (j:Int)=some (.int a'):=gH (by simp [ha])
          have ba:=BO a' (by omega)
          have hbl2:=gU (ins:=ins) (rows:=rows) (w:=a')
          have hfl:=iS (ins:=ins) (rows:=rows) (w:=w) ((bD ins rows w).take j) 0
          rw [List.length_take] at hfl
          rw [mY ha,<- List.append_assoc]
          generalize hB3:B2 ++ bL ins rows w 0 ((bD ins rows w).take j)=B3 at *
          have hB3l:(B3.map Flt.d).length <= 450:=by rw [<- hB3,List.length_map,List.length_append];rw [List.length_map] at hB2l;omega
          have c2:bZ [2,5] (dW (aQ (dB C) [] (aC (aB 0) (aC (fIx (aB 4) (aB 5)) aL)))) fTT (kF (aC (fC (.str "leg")) (aC (bF (aB 1)) (aC (bF (aB 2)) (aC (bF (aB 0)) aL))))) [some (false,bJ ins rows outs),some (true,LI Wt),some (false,.int w),some (true,.lst (B3.map Flt.d)),some (true,LI (bD ins rows w)),some (false,.int (j:Int))]=some (.lst (((cO ins rows a').map fun b=>Flt.leg w (j:Int) b).map Flt.d)):=by
            rw [eO D.int (fun b=>(Flt.leg w (j:Int) b).d) (xs:=cO ins rows a') (fW (aP (xs:=[bJ ins rows outs,.int a']) (aW rfl (aW ea rfl)) ba)) (by omega) (fun x _=>rfl),List.map_map]
            rfl
          have h3:=oJ (i:=3) (j:=3) (env:=[some (false,bJ ins rows outs),some (true,LI Wt),some (false,.int w),some (true,.lst (B3.map Flt.d)),some (true,LI (bD ins rows w)),some (false,.int (j:Int))]) rfl c2 (qI B3) (by simp only [List.length_map] at *;omega)
          rw [<- List.map_append] at h3
          exact⟨_,_,rfl,h3,some (false,.int j),rfl⟩)
      rw [List.length_map,List.length_range,List.take_length] at h2
      refine⟨_,_,rfl,R8 (hin.trans (by simp [hwW])) (Z21 h1 (Z21 e2 h2)),some (false,.int w),some (true,LI (bD ins rows w)),x,?_⟩
      simp only [List.filter_cons,hwW,decide_true,if_true,List.filter_nil,List.flatMap_append,List.flatMap_cons,List.flatMap_nil,List.append_nil,hB]
      unfold bR
      rw [<- hB2,List.append_assoc]
    . refine⟨_,_,rfl,C2 (hin.trans (by simp [hwW])) rfl,some (false,.int w),b,c,?_⟩
      simp only [List.filter_cons,hwW,decide_false,Bool.false_eq_true,if_false,List.filter_nil,List.append_nil,hB]
      rfl
  . rintro env ⟨a,b,c,rfl⟩
    rw [List.length_map,List.take_length,hnr]
    rfl
noncomputable def cov (a b:Int):Bool:=!decide (b=0) && decide (Builtin.bitOr a b=a)
theorem X4 {C:Addr}{a b:Int}:iX C [.int a,.int b]=some (.bl (cov a b)):=by
  unfold iX zL cov
  by_cases h:b=0
  . walk_at "ev"
  . by_cases h2:Builtin.bitOr a b=a
    . walk_at "ev"
    . walk_at "ev"
theorem vV {α:Type}(p:α->Bool):∀ (xs:List α),kW (xs.map fun x=>D.bl (p x))=some (xs.map p)
  | []=>rfl
  | x :: xs=>by simp only [List.map_cons,kW,vV p xs,Option.map_some]
theorem Y7 {α:Type}(p:α->Bool) (xs:List α):Z1N [.lst (xs.map fun x=>D.bl (p x))]=some (.bl (xs.all p)):=by
  simp only [Z1N,vV,Option.map_some,List.all_map]
  rfl
noncomputable def kD (t:Int) (ts:List Int):Bool:=!decide (t=0) && (ts.filter fun u=>cov t u).all fun u=>decide (u=t)
theorem zD {C:Addr}{t:Int}{ts:List Int}(hl:ts.length <= 1000):fV C [.int t,LI ts]=some (.bl (kD t ts)):=by
  refine cA ?_
  show oN C [some (false,.int t),some (false,LI ts)]=_
  unfold oN kD
  by_cases h:t=0
  . refine C0 (by walk_at "ev") (sF ?_)
    simp [h]
  . refine sNo (by walk_at "ev") (fD (jD (xs:=[.lst ((ts.filter fun u=>cov t u).map fun u=>.bl (decide (u=t)))]) (aW (gG D.int (fun u=>.bl (decide (u=t))) (fun u=>cov t u) (xs:=ts) rfl hl ?_ ?_) rfl) ?_))
    . intro u _
      have:=X4 (C:=C) (a:=t) (b:=u)
      show fB (aQ (iX C) [] (aC (aB 1) (aC (aB 0) aL))) [some (false,.int u),some (false,.int t)]=_
      walk_at "ev"
    . intro u _ _
      show mP (fEq (aB 0) (aB 1)) [some (false,.int u),some (false,.int t)]=_
      walk_at "ev"
    . rw [Y7]
      simp [h]
noncomputable def Z1e (ins:Nat) (rows:List Row) (outs:List Int):List Flt:=(cF ins rows outs).filter fun f=>kD (bK ins rows outs f) ((cF ins rows outs).map (bK ins rows outs))
theorem Z2S {C:Addr}{ins:Nat}{rows:List Row}{outs:List Int}(hi:ins <= 8) (hs:ins + rows.length < 64) (hr:RowsOk ins rows) (hl:outs.length <= 100) (ho:∀ a ∈ outs,0 <= a /\ a < ((ins + rows.length:Nat):Int)) :
    pX C [bQ C ins rows outs]=some (.lst ((Z1e ins rows outs).map Flt.d)):=by
  have af:=kX (C:=C) hs hl hr ho
  have fl:=kO hr ho
  have te:=qM (C:=C) (fs:=cF ins rows outs) hi (by omega) hr (fun f hf=>(mI hr f hf).1) (by omega) ho (by omega)
  refine cA ?_
  unfold Z1l Z1e
  generalize cF ins rows outs=FS at *
  refine lW (aP (xs:=[bQ C ins rows outs]) rfl af) ?_
  refine lW (aP (xs:=[bQ C ins rows outs,.lst (FS.map Flt.d)]) rfl te) ?_
  refine fD ?_
  refine gG (fun f=>.tup [Flt.d f,.int (bK ins rows outs f)]) Flt.d (fun f=>kD (bK ins rows outs f) (FS.map (bK ins rows outs))) (xs:=FS) (eL (xs:=[.lst (FS.map Flt.d),LI (FS.map (bK ins rows outs))]) rfl ?_) (by omega) ?_ ?_
  . simp only [A3,LI,List.map_map]
    rw [rT]
    rfl
  . intro f _
    rw [wE]
    have il:=zD (C:=C) (t:=bK ins rows outs f) (ts:=FS.map (bK ins rows outs)) (by rw [List.length_map];omega)
    show fB (aQ (fV C) [] (aC (aB 1) (aC (aB 2) aL))) [some (false,f.d),some (false,.int (bK ins rows outs f)),some (true,LI (FS.map (bK ins rows outs)))]=_
    have e:=aP (F':=fV C) (dds:=[]) (xs:=[.int (bK ins rows outs f),LI (FS.map (bK ins rows outs))]) (fs:=aC (aB 1) (aC (aB 2) aL)) (env:=[some (false,f.d),some (false,.int (bK ins rows outs f)),some (true,LI (FS.map (bK ins rows outs)))]) rfl il
    simp only [ev_B,e]
  . intro f _ _
    rw [wE]
    have:=nE f
    simp only [ev_Flat,ev_var,List.getElem?_cons_zero,Option.join_some,Option.map_some,this,if_true]
noncomputable def Z1c (ins:Nat) (rows:List Row) (outs:List Int):List Flt:=(cF ins rows outs).filter fun f=>decide (bK ins rows outs f=0)
theorem Z2P {C:Addr}{ins:Nat}{rows:List Row}{outs:List Int}(hi:ins <= 8) (hs:ins + rows.length < 64) (hr:RowsOk ins rows) (hl:outs.length <= 100) (ho:∀ a ∈ outs,0 <= a /\ a < ((ins + rows.length:Nat):Int)) :
    pW C [bQ C ins rows outs]=some (.lst ((Z1c ins rows outs).map Flt.d)):=by
  have af:=kX (C:=C) hs hl hr ho
  have fl:=kO hr ho
  have te:=qM (C:=C) (fs:=cF ins rows outs) hi (by omega) hr (fun f hf=>(mI hr f hf).1) (by omega) ho (by omega)
  refine cA ?_
  unfold Z1k Z1c
  generalize cF ins rows outs=FS at *
  refine lW (aP (xs:=[bQ C ins rows outs]) rfl af) ?_
  refine fD ?_
  refine gG (fun f=>.tup [Flt.d f,.int (bK ins rows outs f)]) Flt.d (fun f=>decide (bK ins rows outs f=0)) (xs:=FS) (eL (xs:=[.lst (FS.map Flt.d),LI (FS.map (bK ins rows outs))]) (aW rfl (aW (aP (xs:=[bQ C ins rows outs,.lst (FS.map Flt.d)]) rfl te) rfl)) ?_) (by omega) ?_ ?_
  . simp only [A3,LI,List.map_map]
    rw [rT]
    rfl
  . intro f _
    rw [wE]
    simp only [ev_Eq,ev_var,ev_C,List.getElem?_cons_zero,List.getElem?_cons_succ,Option.join_some,Option.map_some,eqN_int]
  . intro f _ _
    rw [wE]
    have:=nE f
    simp only [ev_Flat,ev_var,List.getElem?_cons_zero,Option.join_some,Option.map_some,this,if_true]
noncomputable def ixV (k:List Int):List (List Int)->Option Nat
  | []=>none
  | a :: r=>if a=k then some 0 else (ixV k r).map (· + 1)
theorem tF (k a:List Int) (r:List (List Int)):ixV k (a :: r)=if a=k then some 0 else (ixV k r).map (· + 1):=rfl
theorem xA {k:List Int}:∀ {ks:List (List Int)}{n:Nat},ixV k ks=some n->n < ks.length
  | [],n,h=>by cases h
  | a :: r,n,h=>by
    unfold ixV at h
    by_cases ha:a=k
    . rw [if_pos ha] at h;cases h;simp
    . rw [if_neg ha] at h
      cases hi:ixV k r with
      | none=>rw [hi] at h;cases h
      | some m=>rw [hi] at h;cases h;have:=xA hi;simp;omega
theorem inl_inj:∀ {a b:List Int},a.map (Sum.inl:Int->Key)=b.map Sum.inl ↔ a=b
  | [],[]=>by simp
  | [],_ :: _=>by simp
  | _ :: _,[]=>by simp
  | x :: a,y :: b=>by
    rw [List.map_cons,List.map_cons,List.cons.injEq,List.cons.injEq,inl_inj]
    exact⟨fun h=>⟨Sum.inl.inj h.1,h.2⟩,fun h=>⟨congrArg _ h.1,h.2⟩⟩
theorem Z3l {k:List Int}:∀ {ks:List (List Int)},ixT (k.map Sum.inl) (ks.map fun a=>a.map (Sum.inl:Int->Key))=ixV k ks
  | []=>rfl
  | a :: r=>by
    rw [List.map_cons]
    unfold ixT ixV
    by_cases ha:a=k
    . rw [if_pos ha,if_pos (inl_inj.mpr ha)]
    . rw [if_neg ha,if_neg (fun z=>ha (inl_inj.mp z)),Z3l]
theorem sY:∀ (xs:List Int),sZ (xs.map D.int)=some (xs.map Sum.inl)
  | []=>rfl
  | x :: xs=>by simp only [List.map_cons,sZ,sY xs,Option.map_some]
theorem Z30 {n:Nat}{xs ys:List Int}:eqN (n + 2) (LI xs) (LI ys)=some (decide (xs=ys)):=by
  by_cases h:xs.length=ys.length
  . exact Z4j h
  . unfold LI
    rw [pJ,if_neg (by simpa using h),decide_eq_false (fun z=>h (by rw [z]))]
theorem Z3m {k:List Int}:∀ {ks:List (List Int)},inD (LI k) (ks.map LI)=some (ixV k ks).isSome
  | []=>rfl
  | a :: r=>by
    rw [List.map_cons]
    unfold inD
    rw [Z30 (n:=6),Z3m,tF]
    by_cases ha:a=k
    . simp [ha]
    . simp [ha]
noncomputable abbrev GSt:=List (List Int) × List (List Flt)
noncomputable def nU (key:Flt->List Int) (st:GSt) (f:Flt):GSt:=match ixV (key f) st.1 with
  | some n=>(st.1,st.2.set n ((st.2[n]?.getD []) ++ [f]))
  | none=>(st.1 ++ [key f],st.2 ++ [[f]])
noncomputable def mO (key:Flt->List Int) (FS:List Flt) (i:Nat):GSt:=(FS.take i).foldl (nU key) ([],[])
theorem qG {key:Flt->List Int}{FS:List Flt}{i:Nat}{f:Flt}(h:FS[i]? = some f):mO key FS (i + 1)=nU key (mO key FS i) f:=by
  unfold mO
  rw [bS h,List.foldl_append]
  rfl
theorem N9 {key:Flt->List Int}{FS:List Flt}:∀ (i:Nat),i <= FS.length->(mO key FS i).1.length=(mO key FS i).2.length /\ (mO key FS i).2.length <= i /\ ∀ g ∈ (mO key FS i).2,g.length <= i
  | 0,_=>by simp [mO]
  | i + 1,h=>by
    have hx:=List.getElem?_eq_getElem (show i < FS.length by omega)
    rw [qG hx]
    obtain⟨h1,h2,h3⟩:=N9 (key:=key) (FS:=FS) i (by omega)
    generalize mO key FS i=st at *
    generalize FS[i]=f
    unfold nU
    cases hi:ixV (key f) st.1 with
    | some n =>
      have hn:=xA hi
      refine⟨by simpa using h1,by simp;omega,fun g hg=>?_⟩
      rcases List.mem_or_eq_of_mem_set hg with z | z
      . have:=h3 g z;omega
      . have hx:=List.getElem?_eq_getElem (show n < st.2.length by omega)
        rw [z,hx]
        have:=h3 _ (List.mem_of_getElem? hx)
        simp;omega
    | none =>
      refine⟨by simp [h1],by simp;omega,fun g hg=>?_⟩
      rcases List.mem_append.mp hg with z | z
      . have:=h3 g z;omega
      . rw [List.mem_singleton.mp z];simp
noncomputable def GD (g:List Flt):D:=.lst (g.map Flt.d)
noncomputable def iE (ins:Nat) (rows:List Row) (outs:List Int) (f:Flt):List Int:=outs.map (nth (bG ins rows f))
noncomputable def O0 (ins:Nat) (rows:List Row) (outs:List Int):List (List Flt):=(mO (iE ins rows outs) (cF ins rows outs) (cF ins rows outs).length).2
theorem W2 {C:Addr}{ins:Nat}{rows:List Row}{outs:List Int}(hi:ins <= 8) (hs:ins + rows.length < 64) (hl:outs.length <= 100) (hr:RowsOk ins rows) (ho:∀ a ∈ outs,0 <= a /\ a < ((ins + rows.length:Nat):Int)) :
    kC C [bQ C ins rows outs]=some (.lst ((O0 ins rows outs).map GD)):=by
  have af:=kX (C:=C) hs hl hr ho
  have fl:=kO hr ho
  have fo:=fun f hf=>(mI (outs:=outs) hr f hf).1
  unfold O0
  generalize cF ins rows outs=FS at *
  refine cA ?_
  unfold zK
  refine lW (d:=.dt [] []) rfl ?_
  refine lD (ds:=FS.map Flt.d) (fW (aP (xs:=[bQ C ins rows outs]) rfl af))
    (fun i env=>i <= FS.length /\ ∃ a,env=[some (false,bQ C ins rows outs),some (true,.dt ((mO (iE ins rows outs) FS i).1.map fun a=>a.map Sum.inl) ((mO (iE ins rows outs) FS i).2.map GD)),a]) ⟨Nat.zero_le _,none,rfl⟩ ?_ ?_
  . rintro i d env hd ⟨hil,a,rfl⟩
    obtain⟨f,hf,rfl⟩:=dM hd
    have hlt:i < FS.length:=(List.getElem?_eq_some_iff.mp hf).1
    have ot:=kS (C:=C) (outs:=outs) hi (by omega) hr (fo f (List.mem_of_getElem? hf)) (by omega) ho
    have ff:=nE f
    obtain⟨h1,h2,h3⟩:=N9 (key:=iE ins rows outs) (FS:=FS) i hil
    rw [qG hf]
    generalize mO (iE ins rows outs) FS i=st at *
    refine⟨_,_,rfl,?_,by omega,some (false,f.d),rfl⟩
    have e1:aQ (bY C) [] (aC (aB 0) (aC (aB 2) aL)) [some (false,bQ C ins rows outs),some (true,.dt (st.1.map fun a=>a.map Sum.inl) (st.2.map GD)),some (false,f.d)]=some (.lst ((iE ins rows outs f).map D.int)):=aP (xs:=[bQ C ins rows outs,f.d]) rfl ot
    show pS 1 2 _ [some (false,bQ C ins rows outs),some (true,.dt (st.1.map fun a=>a.map Sum.inl) (st.2.map GD)),some (false,f.d)]=_
    unfold pS
    simp only [e1,List.getElem?_cons_zero,List.getElem?_cons_succ,sY,Z3l]
    rw [if_pos ⟨by rw [List.length_map];omega,ff,by decide⟩]
    unfold nU
    cases hix:ixV (iE ins rows outs f) st.1 with
    | some n =>
      have hn:=xA hix
      have hx:=List.getElem?_eq_getElem (show n < st.2.length by omega)
      generalize st.2[n]=g at hx
      have hg:=h3 g (List.mem_of_getElem? hx)
      have hx2:(st.2.map GD)[n]? = some (.lst (g.map Flt.d)):=by simp [hx,GD]
      simp only [hx2,hx,Option.getD_some]
      rw [if_pos ⟨by rw [List.length_map];omega,qI g⟩,List.map_set]
      simp [GD]
    | none=>simp [GD]
  . rintro env ⟨_,a,rfl⟩
    rw [List.length_map]
    rfl
deriving instance DecidableEq for Flt
noncomputable def kE:Flt->List Key
  | .none=>[]
  | .wire w b=>[.inr "wire",.inl w,.inl b]
  | .leg w l b=>[.inr "leg",.inl w,.inl l,.inl b]
theorem Z1o {f g:Flt}(hf:f ≠ .none) (hg:g ≠ .none) (h:kE f=kE g):f=g:=by
  cases f with
  | none=>exact absurd rfl hf
  | wire w b =>
    cases g with
    | none=>exact absurd rfl hg
    | wire w' b'=>simp [kE] at h;rw [h.1,h.2]
    | leg w' l' b'=>simp [kE] at h
  | leg w l b =>
    cases g with
    | none=>exact absurd rfl hg
    | wire w' b'=>simp [kE] at h
    | leg w' l' b'=>simp [kE] at h;rw [h.1,h.2.1,h.2.2]
theorem xH {f:Flt}(hf:f ≠ .none):∃ kd,f.d=.tup kd /\ sW kd=some (kE f):=by
  cases f with
  | none=>exact absurd rfl hf
  | wire w b=>exact⟨_,rfl,rfl⟩
  | leg w l b=>exact⟨_,rfl,rfl⟩
theorem Z02 {f:Flt}(hf:f ≠ .none):Q0 (kE f)=f.d:=by
  cases f with
  | none=>exact absurd rfl hf
  | wire w b=>rfl
  | leg w l b=>rfl
theorem rQ {f:Flt}(hf:f ≠ .none):∀ {FS:List Flt},(∀ g ∈ FS,g ≠ .none)->(∀ n,ixT (kE f) (FS.map kE)=some n->FS[n]? = some f) /\ (ixT (kE f) (FS.map kE)=none ↔ f ∉ FS)
  | [],_=>⟨fun n h=>(by cases h),by simp [ixT]⟩
  | g :: FS,nn=>by
    obtain⟨h1,h2⟩:=rQ hf (FS:=FS) fun g hg=>nn g (List.mem_cons_of_mem _ hg)
    simp only [List.map_cons,ixT]
    by_cases hg:g=f
    . rw [if_pos (by rw [hg])]
      exact⟨fun n h=>(by cases h;simp [hg]),by simp [hg]⟩
    . have hk:¬ kE g=kE f:=fun z=>hg (Z1o (nn g List.mem_cons_self) hf z)
      rw [if_neg hk]
      refine⟨fun n h=>?_,?_⟩
      . cases hi:ixT (kE f) (FS.map kE) with
        | none=>rw [hi] at h;cases h
        | some m=>rw [hi] at h;cases h;simpa using h1 m hi
      . rw [Option.map_eq_none_iff,h2,List.mem_cons,not_or]
        exact⟨fun z=>⟨fun y=>hg y.symm,z⟩,fun z=>z.2⟩
noncomputable def DTf (FS:List Flt) (φ:Flt->D):D:=.dt (FS.map kE) (FS.map φ)
theorem oF {fa fb:En->Option D}{env:En}{FS:List Flt}{φ:Flt->D}{f:Flt}(nn:∀ g ∈ FS,g ≠ .none) (ha:fa env=some (DTf FS φ)) (hb:fb env=some f.d) (hm:f ∈ FS):dC fa fb env=some (φ f):=by
  obtain⟨kd,e1,e2⟩:=xH (nn f hm)
  obtain⟨h1,h2⟩:=rQ (nn f hm) nn
  unfold dC
  rw [ha,hb,e1]
  simp only [DTf,e2]
  cases hi:ixT (kE f) (FS.map kE) with
  | none=>exact absurd hm (h2.mp hi)
  | some n=>simp only [List.getElem?_map,h1 n hi,Option.map_some]
theorem Z3f {fa fb:En->Option D}{env:En}{FS:List Flt}{φ:Flt->D}{f:Flt}(nn:∀ g ∈ FS,g ≠ .none) (ha:fa env=some f.d) (hb:fb env=some (DTf FS φ)) (hm:f ∈ FS):mQ (uN fa fb) env=some false:=by
  obtain⟨kd,e1,e2⟩:=xH (nn f hm)
  obtain⟨h1,h2⟩:=rQ (nn f hm) nn
  have:uN fa fb env=some true:=by
    unfold uN
    rw [ha,hb,e1]
    simp only [DTf,e2]
    cases hi:ixT (kE f) (FS.map kE) with
    | none=>exact absurd hm (h2.mp hi)
    | some n=>rfl
  rw [ev_Not,this];rfl
theorem L6 {i:Nat}{fk fv:En->Option D}{env:En}{FS:List Flt}{φ:Flt->D}{f:Flt}(nn:∀ g ∈ FS,g ≠ .none) (hf:f ≠ .none) (hn:f ∉ FS) (hl:FS.length < 1000) (hv:fv env=some (φ f)) (hi:env[i]? = some (some (true,DTf FS φ))) (hk:fk env=some f.d) :
    vB i fk fv env=.next (env.set i (some (true,DTf (FS ++ [f]) φ))):=by
  obtain⟨kd,e1,e2⟩:=xH hf
  obtain⟨h1,h2⟩:=rQ hf nn
  unfold vB
  rw [hv,hi,hk,e1]
  simp only [DTf,e2]
  rw [if_pos ⟨h2.mpr hn,by rw [List.length_map];exact hl⟩]
  simp only [List.map_append,List.map_cons,List.map_nil]
theorem Z1v {n:Nat}{f g:Flt}(hf:f ≠ .none) (hg:g ≠ .none):eqN (n + 2) f.d g.d=some (decide (f=g)):=by
  cases f with
  | none=>exact absurd rfl hf
  | wire w b =>
    cases g with
    | none=>exact absurd rfl hg
    | wire w' b' =>
      simp only [Flt.d,eqN_tup,List.length_cons,List.length_nil,if_true,eqL_cons,eqL_nil,eqN_str,eqN_int,Z4F]
      by_cases h1:w=w' <;> by_cases h2:b=b' <;> simp [h1,h2]
    | leg w' l' b'=>simp [Flt.d,eqN_tup,eqL_cons,eqL_nil,eqL_nilL,eqN_str,eqN_int,Z3B]
  | leg w l b =>
    cases g with
    | none=>exact absurd rfl hg
    | wire w' b'=>simp [Flt.d,eqN_tup,eqL_cons,eqL_nil,eqL_nilL,eqN_str,eqN_int,Z3C]
    | leg w' l' b' =>
      simp only [Flt.d,eqN_tup,List.length_cons,List.length_nil,if_true,eqL_cons,eqL_nil,eqN_str,eqN_int,Z4G]
      by_cases h1:w=w' <;> by_cases h2:l=l' <;> by_cases h3:b=b' <;> simp [h1,h2,h3]
theorem N7 {f:Flt}(hf:f ≠ .none):∀ {FS:List Flt},(∀ g ∈ FS,g ≠ .none)->inD f.d (FS.map Flt.d)=some (decide (f ∈ FS))
  | [],_=>by simp [inD]
  | g :: FS,nn=>by
    have ih:=N7 hf (FS:=FS) fun g hg=>nn g (List.mem_cons_of_mem _ hg)
    have hg:=nn g List.mem_cons_self
    simp only [List.map_cons,inD,Z1v hg hf,ih]
    by_cases h:g=f
    . subst h;simp
    . have h':¬ f=g:=fun z=>h z.symm
      simp [h,h']
noncomputable def fw:Flt->Int
  | .wire w _=>w
  | .leg w _ _=>w
  | .none=>0
theorem vW {ins:Nat}{rows:List Row}{w:Int}:(cO ins rows w).Nodup:=by
  unfold cO
  split
  . decide
  . split
    . simp
    . decide
theorem sT {α β:Type}{l:List α}{φ:α->β}(nd:l.Nodup) (inj:∀ a b,φ a=φ b->a=b):(l.map φ).Nodup:=by
  unfold List.Nodup at *
  rw [List.pairwise_map]
  exact nd.imp fun h z=>h (inj _ _ z)
theorem pB {ins:Nat}{rows:List Row}{w:Int}:∀ (l:List Int) (k:Nat),(bL ins rows w k l).Nodup
  | [],k=>by simp [bL]
  | a :: l,k=>by
    simp only [bL]
    refine List.nodup_append.mpr ⟨sT vW fun x y z=>by cases z;rfl,pB l (k + 1),fun x hx y hy z=>?_⟩
    obtain⟨b,_,rfl⟩:=List.mem_map.mp hx
    obtain⟨j,a',b',_,_,e⟩:=gM hy
    rw [e] at z
    injection z with _ h2 _
    omega
theorem tZ {ins:Nat}{rows:List Row}{w:Int}:(bR ins rows w).Nodup:=by
  unfold bR
  refine List.nodup_append.mpr ⟨sT vW fun x y z=>by cases z;rfl,pB _ _,fun x hx y hy z=>?_⟩
  obtain⟨b,_,rfl⟩:=List.mem_map.mp hx
  obtain⟨j,a',b',_,_,e⟩:=gM hy
  rw [e] at z
  cases z
theorem nX {ins:Nat}{rows:List Row}{w:Int}{f:Flt}(h:f ∈ bR ins rows w):fw f=w:=by
  unfold bR at h
  rcases List.mem_append.mp h with z | z
  . obtain⟨b,_,rfl⟩:=List.mem_map.mp z;rfl
  . obtain⟨j,a',b',_,_,e⟩:=gM z
    rw [e];rfl
theorem J5 {ins:Nat}{rows:List Row}{outs:List Int}(hr:RowsOk ins rows) (ho:∀ a ∈ outs,0 <= a /\ a < ((ins + rows.length:Nat):Int)):(cF ins rows outs).Nodup:=by
  have nd:(mM ins rows outs).Nodup:=(jP _).nodup_iff.mpr (mX hr ho).nd
  unfold cF List.Nodup
  rw [List.pairwise_flatMap]
  exact⟨fun a _=>tZ,nd.imp fun h x hx y hy z=>h (by rw [<- nX hx,<- nX hy,z])⟩
theorem Z52 {n:Nat}{x y:Int}(hx:IsT n x) (hy:IsT n y) (h:Builtin.bitOr x y=x):y <= x:=by
  obtain⟨a,rfl⟩:=hx
  obtain⟨b,rfl⟩:=hy
  rw [<- h,lQ]
  unfold tab
  have:∀ n,tabN n b <= tabN n fun g=>a g || b g:=fun n=>by
    induction n with
    | zero=>exact Nat.le_refl _
    | succ n ih =>
      simp only [tabN]
      have hp:=Nat.two_pow_pos n
      by_cases h1:b n=true <;> by_cases h2:a n=true <;> simp [h1,h2] <;> omega
  exact Int.ofNat_le.mpr (this n)
theorem Z0G {n:Nat}{x y z:Int}(hx:IsT n x) (hy:IsT n y) (hz:IsT n z) (h1:Builtin.bitOr x y=x) (h2:Builtin.bitOr y z=y):Builtin.bitOr x z=x:=by
  obtain⟨a,rfl⟩:=hx
  obtain⟨b,rfl⟩:=hy
  obtain⟨c,rfl⟩:=hz
  rw [lQ,K7] at h1 h2 ⊢
  intro g hg
  have:=h1 g hg
  have:=h2 g hg
  cases ha:a g <;> cases hb:b g <;> cases hc:c g <;> simp_all
theorem Z0H {n:Nat}{x:Int}(hx:IsT n x):Builtin.bitOr x x=x:=by
  obtain⟨a,rfl⟩:=hx
  rw [lQ];exact dD fun g _=>by simp
theorem Z0J {n:Nat}{x y:Int}(hx:IsT n x) (hy:IsT n y):Builtin.bitOr x y=Builtin.bitOr y x:=by
  obtain⟨a,rfl⟩:=hx
  obtain⟨b,rfl⟩:=hy
  rw [lQ,lQ];exact dD fun g _=>Bool.or_comm _ _
theorem zB {n:Nat}{ts:List Int}(hT:∀ u ∈ ts,IsT n u):∀ (N:Nat) (t:Int),t.toNat <= N->t ∈ ts->t ≠ 0->∃ u ∈ ts,kD u ts=true /\ Builtin.bitOr t u=t
  | N,t,hN,ht,h0=>by
    by_cases hl:kD t ts=true
    . exact⟨t,ht,hl,Z0H (hT t ht)⟩
    . have tp:=(hT t ht).nonneg
      have:∃ u ∈ ts,cov t u=true /\ u ≠ t:=by
        apply Classical.byContradiction
        intro hno
        apply hl
        unfold kD
        rw [Bool.and_eq_true]
        refine⟨by simp [h0],List.all_eq_true.mpr fun u hu=>?_⟩
        have hu':=List.mem_filter.mp hu
        apply Classical.byContradiction
        intro hne
        exact hno ⟨u,hu'.1,hu'.2,by simpa using hne⟩
      obtain⟨u,hu,hc,hne⟩:=this
      unfold cov at hc
      rw [Bool.and_eq_true] at hc
      have hu0:u ≠ 0:=by simpa using hc.1
      have hor:Builtin.bitOr t u=t:=by simpa using hc.2
      have hle:=Z52 (hT t ht) (hT u hu) hor
      have up:=(hT u hu).nonneg
      match N,hN with
      | 0,hN=>omega
      | N + 1,hN =>
        obtain⟨v,hv,hv2,hv3⟩:=zB hT N u (by omega) hu hu0
        exact⟨v,hv,hv2,Z0G (hT t ht) (hT u hu) (hT v hv) hor hv3⟩
noncomputable def Y5 (t:Int) (g:Nat):Bool:=decide (t / 2 ^ g % 2=1)
noncomputable def kI (t:Int):List Int:=((List.range (Builtin.Int.intBits t)).filter (Y5 t)).map fun (g:Nat)=>(g:Int)
theorem Z12 {C:Addr}{t:Int}(hb:Builtin.Int.intBits t <= 1000):iI C [.int t]=some (LI (kI t)):=by
  refine cA (fD ?_)
  show bZ [0] (sB1 fJ (aC (zQ (aB 0)) aL)) _ _ [some (false,.int t)]=_
  rw [gG (fun (k:Nat)=>.int (k:Int)) (fun (k:Nat)=>.int (k:Int)) (Y5 t) (xs:=List.range (Builtin.Int.intBits t)) (eL (xs:=[.int ((Builtin.Int.intBits t:Nat):Int)]) rfl (oY hb)) (by rw [List.length_range];exact hb) (fun g hg=>?_) (fun g hg hp=>rfl)]
  . simp [LI,kI,Function.comp_def]
  . have hg1:g < Builtin.Int.intBits t:=List.mem_range.mp hg
    have c1:gO 1 (g:Int):=mN (by omega) (by omega)
    have c2:eR t (1 * 2 ^ (g:Int).toNat):=tP (n:=(g:Int).toNat) (by omega)
    have q2:(0:Int) < 2:=by decide
    have e1:(1:Int) * 2 ^ (g:Int).toNat=2 ^ g:=by rw [Int.one_mul,Int.toNat_natCast]
    show fEq _ _ (some (false,.int (g:Int)) :: [some (false,.int t)])=_
    unfold Y5
    rw [e1] at c2
    walk_at "ev"
theorem Z35 {t:Int}(h0:0 <= t):t < 2 ^ Builtin.Int.intBits t:=by
  unfold Builtin.Int.intBits
  by_cases hz:t=0
  . subst hz;decide
  . have hb:(t == 0)=false:=by simpa using hz
    rw [hb]
    simp only [Bool.false_eq_true,if_false]
    have:=Nat.lt_log2_self (n:=t.natAbs)
    have e:((2 ^ (t.natAbs.log2 + 1):Nat):Int)=2 ^ (t.natAbs.log2 + 1):=by simp
    rw [<- e]
    omega
theorem A1 {t:Int}(h0:0 <= t) (g:Nat):Y5 t g=t.toNat.testBit g:=by
  unfold Y5
  rw [Nat.testBit_eq_decide_div_mod_eq]
  have e:t / 2 ^ g % 2=((t.toNat / 2 ^ g % 2:Nat):Int):=by
    have:t=((t.toNat:Nat):Int):=by omega
    conv=>lhs;rw [this]
    simp
  rw [e]
  exact decide_eq_decide.mpr (by omega)
theorem Z2T {t:Int}(h:0 < t):kI t ≠ []:=by
  intro hz
  have hne:t.toNat ≠ 0:=by omega
  obtain⟨g,hg⟩:=Nat.exists_testBit_of_ne_zero hne
  have hlt:g < Builtin.Int.intBits t:=by
    apply Classical.byContradiction
    intro hn
    have h1:=Z35 (t:=t) (by omega)
    have h2:t.toNat < 2 ^ g:=by
      have h3:2 ^ Builtin.Int.intBits t <= 2 ^ g:=Nat.pow_le_pow_right (by decide) (by omega)
      have e:((2 ^ Builtin.Int.intBits t:Nat):Int)=2 ^ Builtin.Int.intBits t:=by simp
      rw [<- e] at h1
      omega
    rw [Nat.testBit_lt_two_pow h2] at hg
    cases hg
  have:(g:Int) ∈ kI t:=List.mem_map.mpr ⟨g,List.mem_filter.mpr ⟨List.mem_range.mpr hlt,by rw [A1 (by omega)];exact hg⟩,rfl⟩
  rw [hz] at this
  cases this
theorem Z1h {t a:Int}(h0:0 <= t) (h:a ∈ kI t):∃ g:Nat,a=(g:Int) /\ t.toNat.testBit g=true /\ g < Builtin.Int.intBits t:=by
  obtain⟨g,hg,rfl⟩:=List.mem_map.mp h
  obtain⟨h1,h2⟩:=List.mem_filter.mp hg
  exact⟨g,rfl,by rw [<- A1 h0];exact h2,List.mem_range.mp h1⟩
noncomputable def G0 (t c:Int):Prop:=∃ g,t.toNat.testBit g=true /\ c.toNat.testBit g=true
theorem Z2R {t c x:Int}(hc:0 <= c) (hx:0 <= x) (h:G0 t c):G0 t (Builtin.bitOr c x):=by
  obtain⟨g,h1,h2⟩:=h
  refine⟨g,h1,?_⟩
  have e:Builtin.bitOr c x=((c.toNat ||| x.toNat:Nat):Int):=by
    have e1:c=((c.toNat:Nat):Int):=by omega
    have e2:x=((x.toNat:Nat):Int):=by omega
    conv=>lhs;rw [e1,e2]
    exact nV _ _
  rw [e,Int.toNat_natCast,Nat.testBit_or,h2];rfl
theorem T9 {c x:Int}(hc:0 <= c) (hx:0 <= x):0 <= Builtin.bitOr c x:=by
  have e1:c=((c.toNat:Nat):Int):=by omega
  have e2:x=((x.toNat:Nat):Int):=by omega
  rw [e1,e2,nV];exact Int.natCast_nonneg _
theorem Z2Q {t c:Int}(h0:0 <= t) (hc:0 <= c) (h:G0 t c):Builtin.bitAnd t c ≠ 0:=by
  obtain⟨g,h1,h2⟩:=h
  have e1:t=((t.toNat:Nat):Int):=by omega
  have e2:c=((c.toNat:Nat):Int):=by omega
  rw [e1,e2,tW]
  intro z
  have:t.toNat &&& c.toNat=0:=by omega
  have h3:=Nat.testBit_and t.toNat c.toNat g
  rw [this,h1,h2] at h3
  simp at h3
theorem Z4e {t u c:Int}(ht:0 <= t) (hu:0 <= u) (h:G0 u c) (hor:Builtin.bitOr t u=t):G0 t c:=by
  obtain⟨g,h1,h2⟩:=h
  refine⟨g,?_,h2⟩
  have e:t.toNat=t.toNat ||| u.toNat:=by
    have e1:t=((t.toNat:Nat):Int):=by omega
    have e2:u=((u.toNat:Nat):Int):=by omega
    rw [e1,e2,nV] at hor
    omega
  rw [e,Nat.testBit_or,h1,Bool.or_true]
theorem Z14 {C:Addr}{ts ns:List Int}(hns:∀ c ∈ ns,Builtin.Int.intBits c <= 1048576) (hl:ts.length <= 900) (ht:∀ t ∈ ts,0 < t /\ Builtin.Int.intBits t <= 1000) :
    ∃ d,iK C [LI ts,LI ns]=some d /\ ∃ c:Int,d=.int c /\ 0 <= c /\ ∀ t ∈ ts,G0 t c:=by
  refine Z08 ?_
  unfold tL
  refine jF (d:=.int 0) rfl ?_
  have el:bT [LI ts]=some (.int (ts.length:Int)):=by simp only [bT,LI,List.length_map]
  refine oS (ds:=(List.range ts.length).map fun (k:Nat)=>.int (k:Int)) (eL (xs:=[.int (ts.length:Int)]) (aW (jD (xs:=[LI ts]) rfl el) rfl) (oY (by omega)))
    (fun i env=>∃ (c:Int) (a b e:Slot),env=[some (false,LI ts),some (false,LI ns),some (true,.int c),a,b,e] /\ 0 <= c /\ ∀ t ∈ ts.take i,G0 t c) ⟨0,none,none,none,rfl,Int.le_refl _,fun t ht=>(by cases ht)⟩ ?_ ?_
  . rintro i d env R hd ⟨c,a,b,e,rfl,hc,hh⟩ hR
    obtain⟨hi,rfl⟩:=eM hd
    have hx:=List.getElem?_eq_getElem hi
    generalize ts[i]=t at hx
    obtain⟨t0,tb⟩:=ht t (List.mem_of_getElem? hx)
    have lg:=Z12 (C:=C) tb
    have gne:=Z2T t0
    have gl:(kI t).length <= 1000:=by
      unfold kI
      rw [List.length_map]
      have:=List.length_filter_le (Y5 t) (List.range (Builtin.Int.intBits t))
      rw [List.length_range] at this;omega
    have gp:0 < (kI t).length:=List.length_pos_iff.mpr gne
    have m0:=Int.emod_nonneg (i:Int) (show (63:Int) ≠ 0 by decide)
    have m1:=Int.emod_lt_of_pos (i:Int) (show (0:Int) < 63 by decide)
    have la:=Z47 (C:=C) (ns:=ns) (k:=(i:Int) % 63) m0
    have hnb:Builtin.Int.intBits (nth ns ((i:Int) % 63)) <= 1048600:=by
      unfold nth
      cases hq:ns[((i:Int) % 63).toNat]? with
      | none=>rw [List.getD,hq];exact Nat.le_trans (PySem.intBits_le_64 (by decide) (by decide)) (by decide)
      | some y=>rw [List.getD,hq];exact Nat.le_trans (hns y (List.mem_of_getElem? hq)) (by decide)
    obtain⟨m,n0,n1,em⟩:=N2 (C:=C) (c:=nth ns ((i:Int) % 63)) (k:=(i:Int) + 11) hnb (by omega) (by omega)
    refine⟨_,rfl,?_⟩
    let S0:Slot:=some (false,LI ts)
    let S1:Slot:=some (false,LI ns)
    let S2:Slot:=some (true,.int c)
    let S3:Slot:=some (false,.int (i:Int))
    refine jF (d:=LI (kI t)) (aP (xs:=[.int t]) (aW ?_ rfl) lg) ?_
    . exact gH (by rw [List.getElem?_map,hx];rfl)
    have q63:(0:Int) < 63:=by decide
    have e63:fI2 (fun _ j=>0 < j) (fun i j=>.int (i % j)) (aB 3) (fC (.int 63)) [S0,S1,S2,S3,some (true,LI (kI t)),e]=some (.int ((i:Int) % 63)):=Z1r rfl rfl q63
    refine jF (d:=.int m) (aP (xs:=[.int (nth ns ((i:Int) % 63)),.int ((i:Int) + 11)]) (aW (aP (xs:=[LI ns,.int ((i:Int) % 63)]) (aW rfl (aW e63 rfl)) la) rfl) em) ?_
    have gpi:(0:Int) < ((kI t).length:Int):=by omega
    have k0:=Int.emod_nonneg m (show ((kI t).length:Int) ≠ 0 by omega)
    have k1:=Int.emod_lt_of_pos m gpi
    have elg:fB1 bT (aC (aB 4) aL) [S0,S1,S2,S3,some (true,LI (kI t)),some (true,.int m)]=some (.int ((kI t).length:Int)):=jD (xs:=[LI (kI t)]) rfl (by simp only [bT,LI,List.length_map])
    have eix:fIx (aB 4) (fI2 (fun _ j=>0 < j) (fun i j=>.int (i % j)) (aB 5) (fB1 bT (aC (aB 4) aL))) [S0,S1,S2,S3,some (true,LI (kI t)),some (true,.int m)]=some (.int (nth (kI t) (m % ((kI t).length:Int)))):=by
      have e5:fI2 (fun _ j=>0 < j) (fun i j=>.int (i % j)) (aB 5) (fB1 bT (aC (aB 4) aL)) [S0,S1,S2,S3,some (true,LI (kI t)),some (true,.int m)]=some (.int (m % ((kI t).length:Int))):=Z1r rfl elg gpi
      rw [ev_Ix,e5]
      exact gW k0 k1
    obtain⟨g,eg,gb,gl2⟩:=Z1h (by omega) (wV k0 k1)
    rw [eg] at eix
    have c1:gO 1 (g:Int):=mN (by omega) (by omega)
    have e2g:(1:Int) * 2 ^ (g:Int).toNat=((2 ^ g:Nat):Int):=by rw [Int.one_mul,Int.toNat_natCast];simp
    have esh:fI2 gO (fun i j=>.int (i * 2 ^ j.toNat)) (fC (.int 1)) (fIx (aB 4) (fI2 (fun _ j=>0 < j) (fun i j=>.int (i % j)) (aB 5) (fB1 bT (aC (aB 4) aL)))) [S0,S1,S2,S3,some (true,LI (kI t)),some (true,.int m)]=some (.int ((2 ^ g:Nat):Int)):=by
      exact (Z1r (i:=1) (j:=(g:Int)) rfl eix c1).trans (by rw [e2g])
    refine xW (d:=.int (Builtin.bitOr c ((2 ^ g:Nat):Int))) (O7 rfl esh) (hR _ ⟨Builtin.bitOr c ((2 ^ g:Nat):Int),S3,some (true,LI (kI t)),some (true,.int m),rfl,T9 hc (Int.natCast_nonneg _),fun u hu=>?_⟩)
    rw [bS hx] at hu
    rcases List.mem_append.mp hu with z | z
    . exact Z2R hc (Int.natCast_nonneg _) (hh u z)
    . rw [List.mem_singleton.mp z]
      refine⟨g,gb,?_⟩
      have ec:c=((c.toNat:Nat):Int):=by omega
      rw [ec,nV,Int.toNat_natCast,Nat.testBit_or,Nat.testBit_two_pow_self,Bool.or_true]
  . rintro env ⟨c,a,b,e,rfl,hc,hh⟩
    rw [List.length_map,List.length_range,List.take_length] at hh
    exact Z3t (d:=.int c) rfl ⟨_,rfl,c,rfl,hc,hh⟩
theorem O6 {fa:En->Option D}{env:En}{d:D}(h:fa env=some d) (k:PD.flat d=true):bF fa env=some d:=by rw [ev_Flat,h];simp only [k,if_true]
noncomputable def dP (key:Flt->List Int) (P:List Flt) (k:List Int):List Flt:=P.filter fun f=>decide (key f=k)
theorem mG {key:Flt->List Int}{P:List Flt}{f:Flt}{k:List Int}:dP key (P ++ [f]) k=dP key P k ++ if key f=k then [f] else []:=by
  unfold dP
  rw [List.filter_append]
  by_cases h:key f=k <;> simp [h]
theorem N3 {k:List Int}:∀ {ks:List (List Int)}{n:Nat},ixV k ks=some n->ks[n]? = some k
  | [],n,h=>by cases h
  | a :: ks,n,h=>by
    rw [tF] at h
    by_cases ha:a=k
    . rw [if_pos ha] at h;cases h;simp [ha]
    . rw [if_neg ha] at h
      cases hi:ixV k ks with
      | none=>rw [hi] at h;cases h
      | some m=>rw [hi] at h;cases h;simpa using N3 hi
theorem ixV_no {k:List Int}:∀ {ks:List (List Int)},ixV k ks=none ↔ k ∉ ks
  | []=>by simp [ixV]
  | a :: ks=>by
    rw [tF]
    by_cases ha:a=k
    . rw [if_pos ha];simp [ha]
    . have ha':¬ k=a:=fun z=>ha z.symm
      rw [if_neg ha,Option.map_eq_none_iff,ixV_no,List.mem_cons,not_or]
      exact⟨fun z=>⟨ha',z⟩,fun z=>z.2⟩
structure GI (key:Flt->List Int) (P:List Flt) (st:GSt):Prop where
  eq:st.2=st.1.map (dP key P)
  nd:st.1.Nodup
  all:∀ f ∈ P,key f ∈ st.1
  ne:∀ k ∈ st.1,∃ f ∈ P,key f=k
theorem Z1f {key:Flt->List Int}{P:List Flt}{st:GSt}{f:Flt}(h:GI key P st):GI key (P ++ [f]) (nU key st f):=by
  unfold nU
  cases hi:ixV (key f) st.1 with
  | some n =>
    have hn:=N3 hi
    have hlt:=xA hi
    refine⟨?_,h.nd,fun g hg=>?_,fun k hk=>?_⟩
    . show st.2.set n ((st.2[n]?.getD []) ++ [f])=_
      apply List.ext_getElem?
      intro m
      have e2:st.2[n]? = some (dP key P (key f)):=by rw [h.eq,List.getElem?_map,hn];rfl
      rw [e2,Option.getD_some]
      by_cases hm:n=m
      . subst hm
        rw [List.getElem?_set_self (by rw [h.eq,List.length_map];exact hlt),List.getElem?_map,hn,Option.map_some,mG,if_pos rfl]
      . rw [List.getElem?_set_ne hm,h.eq,List.getElem?_map,List.getElem?_map]
        cases hk:st.1[m]? with
        | none=>rfl
        | some k =>
          have hne:¬ key f=k:=fun z=>by
            subst z
            obtain⟨m1,e1⟩:=List.getElem?_eq_some_iff.mp hk
            obtain⟨n1,e3⟩:=List.getElem?_eq_some_iff.mp hn
            have:=(List.getElem_inj h.nd (h₀:=n1) (h₁:=m1)).mp (by rw [e1,e3])
            exact hm this
          simp only [Option.map_some]
          rw [mG,if_neg hne,List.append_nil]
    . rcases List.mem_append.mp hg with z | z
      . exact h.all g z
      . rw [List.mem_singleton.mp z];exact List.mem_of_getElem? hn
    . obtain⟨g,hg,e⟩:=h.ne k hk
      exact⟨g,List.mem_append_left _ hg,e⟩
  | none =>
    have hn:=ixV_no.mp hi
    refine⟨?_,?_,fun g hg=>?_,fun k hk=>?_⟩
    . show st.2 ++ [[f]]=(st.1 ++ [key f]).map _
      rw [List.map_append,h.eq]
      congr 1
      . refine List.map_congr_left fun k hk=>?_
        rw [mG,if_neg (fun z:key f=k=>hn (by rw [z];exact hk)),List.append_nil]
      . have:dP key P (key f)=[]:=by
          unfold dP
          rw [List.filter_eq_nil_iff]
          intro g hg z
          exact hn (by have:=h.all g hg;rw [of_decide_eq_true z] at this;exact this)
        simp only [List.map_cons,List.map_nil]
        rw [mG,if_pos rfl,this];rfl
    . refine List.nodup_append.mpr ⟨h.nd,by simp,fun a ha b hb z=>?_⟩
      rw [List.mem_singleton.mp hb] at z
      exact hn (z ▸ ha)
    . rcases List.mem_append.mp hg with z | z
      . exact List.mem_append_left _ (h.all g z)
      . rw [List.mem_singleton.mp z];exact List.mem_append_right _ (List.mem_singleton.mpr rfl)
    . rcases List.mem_append.mp hk with z | z
      . obtain⟨g,hg,e⟩:=h.ne k z
        exact⟨g,List.mem_append_left _ hg,e⟩
      . exact⟨f,List.mem_append_right _ (List.mem_singleton.mpr rfl),(List.mem_singleton.mp z).symm⟩
theorem N8 {key:Flt->List Int}{FS:List Flt}:∀ i,i <= FS.length->GI key (FS.take i) (mO key FS i)
  | 0,_=>⟨rfl,by simp [mO],fun f hf=>(by cases hf),fun k hk=>(by cases hk)⟩
  | i + 1,h=>by
    have hx:=List.getElem?_eq_getElem (show i < FS.length by omega)
    rw [qG hx,bS hx]
    exact Z1f (N8 i (by omega))
structure GV (key:Flt->List Int) (FS:List Flt) (gs:List (List Flt)) (ks:List (List Int)):Prop where
  eq:gs=ks.map (dP key FS)
  nd:ks.Nodup
  all:∀ f ∈ FS,key f ∈ ks
  ne:∀ k ∈ ks,∃ f ∈ FS,key f=k
theorem Z5h {key:Flt->List Int}{FS:List Flt}:∃ ks,GV key FS (mO key FS FS.length).2 ks:=by
  have h:=N8 (key:=key) (FS:=FS) FS.length (Nat.le_refl _)
  rw [List.take_length] at h
  exact⟨_,h.eq,h.nd,h.all,h.ne⟩
theorem GV.flat_nd {key:Flt->List Int}{FS:List Flt}{gs:List (List Flt)}{ks:List (List Int)}(h:GV key FS gs ks) (nd:FS.Nodup):gs.flatten.Nodup /\ gs.flatten.length=FS.length:=by
  have e:gs.flatten=ks.flatMap (dP key FS):=by rw [h.eq,List.flatMap_def]
  have n1:(ks.flatMap (dP key FS)).Nodup:=by
    unfold List.Nodup
    rw [List.pairwise_flatMap]
    refine⟨fun k _=>nd.filter _,h.nd.imp fun hne x hx y hy z=>hne ?_⟩
    have h1:=of_decide_eq_true (List.mem_filter.mp hx).2
    have h2:=of_decide_eq_true (List.mem_filter.mp hy).2
    rw [<- h1,<- h2,z]
  rw [e]
  refine⟨n1,((List.perm_ext_iff_of_nodup n1 nd).mpr fun f=>?_).length_eq⟩
  rw [List.mem_flatMap]
  exact⟨fun⟨k,_,hf⟩=>(List.mem_filter.mp hf).1,fun hf=>⟨key f,h.all f hf,List.mem_filter.mpr ⟨hf,decide_eq_true rfl⟩⟩⟩
theorem lJ {key:Flt->List Int}{FS:List Flt}{k:List Int}(h:∃ f ∈ FS,key f=k):∃ f r,dP key FS k=f :: r /\ f ∈ FS /\ key f=k:=by
  obtain⟨f,hf,e⟩:=h
  have hm:f ∈ dP key FS k:=List.mem_filter.mpr ⟨hf,decide_eq_true e⟩
  cases hg:dP key FS k with
  | nil=>rw [hg] at hm;cases hm
  | cons g r =>
    have hg2:g ∈ dP key FS k:=by rw [hg];exact List.mem_cons_self
    exact⟨g,r,rfl,(List.mem_filter.mp hg2).1,of_decide_eq_true (List.mem_filter.mp hg2).2⟩
theorem Z3d {Q:Res->Prop}{env:En}{k:En->Res}{f:En->Option D}{i:Nat}{rs:List Nat}{d:D}(e:f env=some d) (q:Wp (k ((fz rs env).set i (some (false,d)))) Q):Wp (aO (vC i rs f) k env) Q:=by unfold aO vC;rw [e];exact q
theorem Z0I {a b:En->Option Bool}{env:En}(h:a env=some false) (k:b env=some false):fOr a b env=some false:=by rw [ev_Or,h];exact k
theorem Z44 {fa fb:En->Option D}{env:En}{x y:D}(h:fa env=some x) (k:fb env=some y) (e:eqN 8 x y=some true):mQ (fEq fa fb) env=some false:=by rw [ev_Not,ev_Eq,h,k];simp only [e,Option.map_some,Bool.not_true]
theorem Z4k {n:Nat}{g:List Flt}(nn:∀ f ∈ g,f ≠ .none):eqN (n + 3) (GD g) (GD g)=some true:=by
  unfold GD
  rw [pJ,if_pos rfl]
  refine pK fun d hd=>?_
  obtain⟨f,hf,rfl⟩:=List.mem_map.mp hd
  rw [Z1v (nn f hf) (nn f hf)];simp
theorem V3 {C:Addr}{key:Flt->List Int}{tell:Flt->Int}{FS:List Flt}{gs:List (List Flt)}{ks:List (List Int)}{k0:List Int}(h:GV key FS gs ks) (nd:FS.Nodup) (nn:∀ f ∈ FS,f ≠ .none) (hl:FS.length <= 900) (ht:∀ f ∈ FS,tell f=0 ↔ key f=k0) :
    gZ C [.lst (gs.map GD),DTf FS (fun f=>.int (tell f)),DTf FS (fun f=>LI (key f)),.lst ((FS.filter fun f=>decide (tell f=0)).map Flt.d)]=some (.bl true):=by
  obtain⟨fnd,flen⟩:=h.flat_nd nd
  have hks:ks.length <= FS.length:=by
    have h1:ks.length <= gs.flatten.length:=by
      rw [h.eq]
      have:∀ (l:List (List Int)),(∀ k ∈ l,∃ f ∈ FS,key f=k)->l.length <= (l.map (dP key FS)).flatten.length:=by
        intro l
        induction l with
        | nil=>intro _;simp
        | cons k l ih =>
          intro hk
          have h2:=ih fun k hk'=>hk k (List.mem_cons_of_mem _ hk')
          obtain⟨f,r,e,_⟩:=lJ (hk k List.mem_cons_self)
          simp only [List.map_cons,List.flatten_cons,List.length_append,List.length_cons,e]
          omega
      exact this ks h.ne
    omega
  have hgn:∀ g ∈ gs,∀ f ∈ g,f ∈ FS:=fun g hg f hf=>by
    rw [h.eq] at hg
    obtain⟨k,_,rfl⟩:=List.mem_map.mp hg
    exact (List.mem_filter.mp hf).1
  generalize hID:(FS.filter fun f=>decide (tell f=0))=idl
  let S0:Slot:=some (false,.lst (gs.map GD))
  let S1:Slot:=some (false,DTf FS fun f=>.int (tell f))
  let S2:Slot:=some (false,DTf FS fun f=>LI (key f))
  let S3:Slot:=some (false,.lst (idl.map Flt.d))
  refine Z4M ?_
  unfold rA
  refine jF (d:=.lst []) rfl ?_
  refine oS (ds:=gs.map GD) rfl (fun a env=>∃ s5 s6,env=[S0,S1,S2,S3,some (true,.lst ((gs.take a).flatten.map Flt.d)),s5,s6,none,none,none]) ⟨none,none,rfl⟩ ?_ ?_
  . rintro a d env R hd ⟨s5,s6,rfl⟩ hR
    obtain⟨g,hg,rfl⟩:=dM hd
    have hgm:=List.mem_of_getElem? hg
    have hgi:=(List.getElem?_eq_some_iff.mp hg).1
    have egs:gs=gs.take a ++ g :: gs.drop (a + 1):=by
      have:=List.take_append_drop a gs
      rw [List.drop_eq_getElem_cons hgi,(List.getElem?_eq_some_iff.mp hg).2] at this
      exact this.symm
    obtain⟨k,hk,ek⟩:∃ k ∈ ks,g=dP key FS k:=by
      have:=hgm;rw [h.eq] at this
      obtain⟨k,hk,e⟩:=List.mem_map.mp this
      exact⟨k,hk,e.symm⟩
    have hkey:∀ f ∈ g,key f=k:=fun f hf=>by rw [ek] at hf;exact of_decide_eq_true (List.mem_filter.mp hf).2
    obtain⟨f0,r0,e0,hf0,hk0⟩:=lJ (h.ne k hk)
    rw [<- ek] at e0
    refine⟨_,rfl,?_⟩
    refine Z5 (ds:=g.map Flt.d) rfl (fun b env=>∃ s6,env=[S0,S1,S2,S3,some (true,.lst (((gs.take a).flatten ++ g.take b).map Flt.d)),some (false,GD g),s6,none,none,none]) ⟨s6,by simp;rfl⟩ ?_ ?_
    . rintro b d env R' hd' ⟨s6,rfl⟩ hR'
      obtain⟨f,hf,rfl⟩:=dM hd'
      have hfm:=List.mem_of_getElem? hf
      have hfF:=hgn g hgm f hfm
      have hfi:=(List.getElem?_eq_some_iff.mp hf).1
      have eg:g=g.take b ++ f :: g.drop (b + 1):=by
        have:=List.take_append_drop b g
        rw [List.drop_eq_getElem_cons hfi,(List.getElem?_eq_some_iff.mp hf).2] at this
        exact this.symm
      have efl:gs.flatten=((gs.take a).flatten ++ g.take b) ++ f :: (g.drop (b + 1) ++ (gs.drop (a + 1)).flatten):=by
        conv=>lhs;rw [egs]
        rw [List.flatten_append,List.flatten_cons]
        conv=>lhs;rw [eg]
        simp
      have hns:f ∉ (gs.take a).flatten ++ g.take b:=by
        rw [efl] at fnd
        intro z
        exact (List.nodup_append.mp fnd).2.2 f z f List.mem_cons_self rfl
      have hsn:∀ x ∈ (gs.take a).flatten ++ g.take b,x ≠ Flt.none:=fun x hx=>by
        rcases List.mem_append.mp hx with z | z
        . obtain⟨g',hg',hx'⟩:=List.mem_flatten.mp z
          exact nn x (hgn g' (List.mem_of_mem_take hg') x hx')
        . exact nn x (hgn g hgm x (List.mem_of_mem_take z))
      have hsl:((gs.take a).flatten ++ g.take b).length <= 900:=by
        have:=congrArg List.length efl
        rw [List.length_append,List.length_cons] at this
        omega
      generalize hS:(gs.take a).flatten ++ g.take b=seen at *
      refine⟨_,rfl,?_⟩
      let E:En:=[S0,S1,S2,S3,some (true,.lst (seen.map Flt.d)),some (false,GD g),some (false,f.d),none,none,none]
      have i0:fIx (aB 5) (fC (.int 0)) E=some f0.d:=by
        show atI (g.map Flt.d) ((0:Nat):Int)=_
        exact gH (by rw [e0];rfl)
      have cnd:fOr (mQ (uN (aB 6) (aB 1))) (fOr (fIn (aB 6) (aB 4)) (mQ (fEq (dC (aB 2) (aB 6)) (dC (aB 2) (fIx (aB 5) (fC (.int 0))))))) E=some false:=by
        refine Z0I (Z3f (FS:=FS) (φ:=fun f=>.int (tell f)) (f:=f) nn rfl rfl hfF) (Z0I ?_ ?_)
        . show inD f.d (seen.map Flt.d)=_
          rw [N7 (nn f hfF) hsn,decide_eq_false hns]
        . refine Z44 (oF (FS:=FS) (φ:=fun f=>LI (key f)) (f:=f) nn rfl rfl hfF) (oF (FS:=FS) (φ:=fun f=>LI (key f)) (f:=f0) nn rfl i0 hf0) ?_
          rw [hkey f hfm,hk0]
          exact Z1u 6 _
      refine wNo cnd ?_
      refine xY (d:=f.d) (ds:=seen.map Flt.d) (O6 (by rfl) (nE f)) rfl (by rw [List.length_map];omega) (hR' _ ⟨some (false,f.d),?_⟩)
      rw [bS hf,<- List.append_assoc,hS,List.map_append];rfl
    . rintro env ⟨s6,rfl⟩
      refine hR _ ⟨some (false,GD g),s6,?_⟩
      rw [List.length_map,List.take_length,bS hg,List.flatten_append]
      simp
  rintro env ⟨s5,s6,rfl⟩
  rw [List.length_map,List.take_length]
  have egd:gs.map GD=ks.map fun k=>GD (dP key FS k):=by rw [h.eq,List.map_map];rfl
  have lenG:∀ k ∈ ks,∀ r:List Slot,fBI (fun i j=>decide (j < i)) (fB1 bT (aC (aB 0) aL)) (fC (.int 0)) (some (false,GD (dP key FS k)) :: r)=some true:=fun k hk r=>by
    obtain⟨f,r',e,_⟩:=lJ (h.ne k hk)
    have:fB1 bT (aC (aB 0) aL) (some (false,GD (dP key FS k)) :: r)=some (.int ((dP key FS k).length:Int)):=jD (xs:=[GD (dP key FS k)]) rfl (by simp only [bT,GD,List.length_map])
    rw [ev_BI,this,e]
    show some (decide ((0:Int) < _))=_
    rw [decide_eq_true (by simp)]
  have ixG:∀ k ∈ ks,∃ f,f ∈ FS /\ key f=k /\ ∀ r:List Slot,fIx (aB 0) (fC (.int 0)) (some (false,GD (dP key FS k)) :: r)=some f.d:=fun k hk=>by
    obtain⟨f,r',e,h1,h2⟩:=lJ (h.ne k hk)
    refine⟨f,h1,h2,fun r=>?_⟩
    show atI ((dP key FS k).map Flt.d) ((0:Nat):Int)=_
    exact gH (by rw [e];rfl)
  have e7:bZ [2] (dW (aB 0)) (fBI (fun i j=>decide (j < i)) (fB1 bT (aC (aB 0) aL)) (fC (.int 0))) (dC (aB 1) (fIx (aB 0) (fC (.int 0)))) [S0,S1,S2,S3,some (true,.lst (gs.flatten.map Flt.d)),s5,s6,none,none,none]=some (.lst (ks.map LI)):=by
    rw [gG (fun k=>GD (dP key FS k)) LI (fun _=>true) (xs:=ks) (by show some (gs.map GD)=_;rw [egd]) (by omega) (fun k hk=>lenG k hk _) (fun k hk _=>by
      obtain⟨f,h1,h2,h3⟩:=ixG k hk
      have:=oF (fa:=aB 1) (fb:=fIx (aB 0) (fC (.int 0))) (env:=some (false,GD (dP key FS k)) :: iF [2] [S0,S1,S2,S3,some (true,.lst (gs.flatten.map Flt.d)),s5,s6,none,none,none]) (FS:=FS) (φ:=fun f=>LI (key f)) (f:=f) nn rfl (h3 _) h1
      rw [this,h2])]
    rw [List.filter_eq_self.mpr (fun _ _=>rfl)]
  refine Z3d e7 ?_
  let S4:Slot:=some (true,.lst (gs.flatten.map Flt.d))
  let S7:Slot:=some (false,.lst (ks.map LI))
  show Wp (aO _ _ [S0,S1,S2,S3,S4,s5,s6,S7,none,none]) _
  refine oS (ds:=(List.range ks.length).map fun (k:Nat)=>.int (k:Int)) (eL (xs:=[.int (ks.length:Int)]) (aW (jD (xs:=[.lst (ks.map LI)]) rfl (by simp only [bT,List.length_map])) rfl) (oY (by omega))) (fun i env=>∃ s8,env=[S0,S1,S2,S3,S4,s5,s6,S7,s8,none]) ⟨none,rfl⟩ ?_ ?_
  . rintro i d env R hd ⟨s8,rfl⟩ hR
    obtain⟨hi,rfl⟩:=eM hd
    have hx:=List.getElem?_eq_getElem hi
    have hno:ks[i] ∉ ks.take i:=by
      intro z
      obtain⟨j,hj⟩:=List.getElem?_of_mem z
      have hj1:=(List.getElem?_eq_some_iff.mp hj).1
      rw [List.length_take] at hj1
      rw [List.getElem?_take_of_lt (by omega)] at hj
      obtain⟨j2,ej⟩:=List.getElem?_eq_some_iff.mp hj
      have:=(List.getElem_inj h.nd (h₀:=j2) (h₁:=hi)).mp ej
      omega
    generalize ks[i]=k at hx hno
    refine⟨_,rfl,qL ?_ (Z4 (hR _ ⟨some (false,.int (i:Int)),rfl⟩))⟩
    have e1:fIx (aB 7) (aB 8) [S0,S1,S2,S3,S4,s5,s6,S7,some (false,.int (i:Int)),none]=some (LI k):=gH (by rw [List.getElem?_map,hx];rfl)
    have e2:uL (aB 7) nF (fP (aB 8)) [S0,S1,S2,S3,S4,s5,s6,S7,some (false,.int (i:Int)),none]=some (.lst ((ks.take i).map LI)):=by
      show some (D.lst (cutD (ks.map LI) none (some (i:Int))))=_
      rw [gN,List.map_take]
    show fIn (fIx (aB 7) (aB 8)) (uL (aB 7) nF (fP (aB 8))) [S0,S1,S2,S3,S4,s5,s6,S7,some (false,.int (i:Int)),none]=_
    rw [ev_In,e1,e2]
    show inD (LI k) ((ks.take i).map LI)=_
    rw [Z3m,ixV_no.mpr hno];rfl
  rintro env ⟨s8,rfl⟩
  have e9:bZ [1] (dW (aB 0)) (kG (fBI (fun i j=>decide (j < i)) (fB1 bT (aC (aB 0) aL)) (fC (.int 0))) (fEq (dC (aB 1) (fIx (aB 0) (fC (.int 0)))) (fC (.int 0)))) (aB 0) [S0,S1,S2,S3,S4,s5,s6,S7,s8,none]=some (.lst ((ks.filter fun k=>decide (k=k0)).map fun k=>GD (dP key FS k))):=by
    rw [gG (fun k=>GD (dP key FS k)) (fun k=>GD (dP key FS k)) (fun k=>decide (k=k0)) (xs:=ks) (by show some (gs.map GD)=_;rw [egd]) (by omega) (fun k hk=>?_) (fun k hk _=>rfl)]
    obtain⟨f,h1,h2,h3⟩:=ixG k hk
    have tg:=oF (fa:=aB 1) (fb:=fIx (aB 0) (fC (.int 0))) (env:=some (false,GD (dP key FS k)) :: iF [1] [S0,S1,S2,S3,S4,s5,s6,S7,s8,none]) (FS:=FS) (φ:=fun f=>.int (tell f)) (f:=f) nn rfl (h3 _) h1
    rw [ev_And,lenG k hk,ev_Eq,tg]
    show eqN 8 (.int (tell f)) (.int 0)=_
    rw [eqN_int]
    congr 1
    exact decide_eq_decide.mpr (by rw [ht f h1,h2])
  refine Z3d e9 ?_
  have hid:dP key FS k0=idl:=by
    rw [<- hID]
    exact List.filter_congr fun f hf=>decide_eq_decide.mpr (ht f hf).symm
  have idn:∀ f ∈ idl,f ≠ Flt.none:=fun f hf=>by rw [<- hID] at hf;exact nn f (List.mem_filter.mp hf).1
  have idl9:idl.length <= 900:=by rw [<- hID];exact Nat.le_trans (List.length_filter_le _ _) hl
  have hq:((ks.filter fun k=>decide (k=k0)).map fun k=>GD (dP key FS k))=if idl=[] then [] else [GD idl]:=by
    by_cases hk:k0 ∈ ks
    . have e1:ks.filter (fun k=>decide (k=k0))=[k0]:=by
        have:∀ (l:List (List Int)),l.Nodup->k0 ∈ l->l.filter (fun k=>decide (k=k0))=[k0]:=by
          intro l
          induction l with
          | nil=>intro _ hm;cases hm
          | cons a l ih =>
            intro hnd hm
            obtain⟨h1,h2⟩:=List.nodup_cons.mp hnd
            by_cases ha:a=k0
            . subst ha
              rw [List.filter_cons_of_pos (by simp)]
              congr 1
              rw [List.filter_eq_nil_iff]
              intro x hx z
              exact h1 (of_decide_eq_true z ▸ hx)
            . rw [List.filter_cons_of_neg (by simp [ha])]
              exact ih h2 ((List.mem_cons.mp hm).resolve_left fun z=>ha z.symm)
        exact this ks h.nd hk
      obtain⟨f,r,e,_⟩:=lJ (h.ne k0 hk)
      rw [hid] at e
      rw [e1,if_neg (by rw [e];simp)]
      simp only [List.map_cons,List.map_nil,hid]
    . have e1:ks.filter (fun k=>decide (k=k0))=[]:=by
        rw [List.filter_eq_nil_iff]
        intro x hx z
        exact hk (of_decide_eq_true z ▸ hx)
      have e2:idl=[]:=by
        rw [<- hid]
        unfold dP
        rw [List.filter_eq_nil_iff]
        intro f hf z
        exact hk (of_decide_eq_true z ▸ h.all f hf)
      rw [e1,if_pos e2];rfl
  rw [hq]
  let S9:Slot:=some (false,.lst (if idl=[] then [] else [GD idl]))
  let E:En:=[S0,S1,S2,S3,S4,s5,s6,S7,s8,S9]
  show Wp (cD _ E) _
  refine Z3t (d:=.bl true) ?_ rfl
  have l4:fB1 bT (aC (aB 4) aL) E=some (.int (FS.length:Int)):=jD (xs:=[.lst (gs.flatten.map Flt.d)]) rfl (by simp only [bT,List.length_map,flen])
  have l1:fB1 wC (aC (aB 1) aL) E=some (.int (FS.length:Int)):=jD (xs:=[DTf FS fun f=>.int (tell f)]) rfl (by simp only [wC,DTf,List.length_map];rw [if_pos (by omega)])
  have l3:fB1 bT (aC (aB 3) aL) E=some (.int (idl.length:Int)):=jD (xs:=[.lst (idl.map Flt.d)]) rfl (by simp only [bT,List.length_map])
  have gtz:fI0 (fun i j=>.bl (decide (j < i))) (fB1 bT (aC (aB 3) aL)) (fC (.int 0)) E=some (.bl (decide ((0:Int) < (idl.length:Int)))):=O7 l3 rfl
  have sl:uL (jN (aC (aB 3) aL)) nF (fP (fB1 rL (aC (fI0 (fun i j=>.bl (decide (j < i))) (fB1 bT (aC (aB 3) aL)) (fC (.int 0))) aL))) E=some (.lst (if idl=[] then [] else [GD idl])):=by
    by_cases hz:idl=[]
    . have en:fB1 rL (aC (fI0 (fun i j=>.bl (decide (j < i))) (fB1 bT (aC (aB 3) aL)) (fC (.int 0))) aL) E=some (.int 0):=jD (xs:=[.bl false]) (aW (by rw [gtz,hz];rfl) rfl) rfl
      have ep:fP (fB1 rL (aC (fI0 (fun i j=>.bl (decide (j < i))) (fB1 bT (aC (aB 3) aL)) (fC (.int 0))) aL)) E=some (some 0):=by rw [ev_P,en]
      rw [if_pos hz]
      unfold uL
      rw [ep]
      show some (D.lst (cutD [.lst (idl.map Flt.d)] none (some ((0:Nat):Int))))=_
      rw [gN];rfl
    . have hp:0 < idl.length:=List.length_pos_iff.mpr hz
      have en:fB1 rL (aC (fI0 (fun i j=>.bl (decide (j < i))) (fB1 bT (aC (aB 3) aL)) (fC (.int 0))) aL) E=some (.int 1):=jD (xs:=[.bl true]) (aW (by rw [gtz,decide_eq_true (by omega)]) rfl) rfl
      have ep:fP (fB1 rL (aC (fI0 (fun i j=>.bl (decide (j < i))) (fB1 bT (aC (aB 3) aL)) (fC (.int 0))) aL)) E=some (some 1):=by rw [ev_P,en]
      rw [if_neg hz]
      unfold uL
      rw [ep]
      show some (D.lst (cutD [.lst (idl.map Flt.d)] none (some ((1:Nat):Int))))=_
      rw [gN];rfl
  have q1:fB (mP (fEq (fB1 bT (aC (aB 4) aL)) (fB1 wC (aC (aB 1) aL)))) E=some true:=by
    rw [ev_B,ev_OfB,ev_Eq,l4,l1]
    simp only [eqN_int,decide_true,Option.map_some]
  have q2:fB (mP (fEq (aB 9) (uL (jN (aC (aB 3) aL)) nF (fP (fB1 rL (aC (fI0 (fun i j=>.bl (decide (j < i))) (fB1 bT (aC (aB 3) aL)) (fC (.int 0))) aL)))))) E=some true:=by
    have:eqN 8 (.lst (if idl=[] then [] else [GD idl])) (.lst (if idl=[] then [] else [GD idl]))=some true:=by
      rw [pJ,if_pos rfl]
      refine pK fun d hd=>?_
      split at hd
      . cases hd
      . rw [List.mem_singleton.mp hd];exact Z4k (n:=4) idn
    rw [ev_B,ev_OfB,ev_Eq,sl]
    show (match Option.map D.bl (eqN 8 (.lst (if idl=[] then [] else [GD idl])) (.lst (if idl=[] then [] else [GD idl]))) with | some (.bl b)=>some b | _=>none)=some true
    rw [this];rfl
  rw [ev_OfB,ev_And,q1]
  show Option.map D.bl (fB _ E)=_
  rw [q2];rfl
theorem Z1G {n:Nat}{x:Int}(h:IsT n x):Builtin.Int.intBits x <= n:=by obtain⟨b,rfl⟩:=h;exact tU n b
theorem Z0Z {C:Addr}(ns:List Int) (hlen:ns.length <= 63) (hbits:∀ i ∈ ns,Builtin.Int.intBits i <= 1048576):Z0W C [.lst (ns.map D.int)]=some (.bl true):=by
  refine Z4M ?_
  unfold Z3n
  obtain⟨_,ed,ins,rows,outs,hi5,hr,hrl,o1,o2,ho,hpos,rfl⟩:=Z2K (C:=C) hlen hbits
  refine jF (aP (xs:=[LI ns]) rfl ed) ?_
  have f1:iD [.lst (rows.map Row.d)]=some (.lst (rows.map Row.d)):=by simp only [iD,R6,if_true]
  have f2:iD [LI outs]=some (LI outs):=by simp only [iD,LI,fL,if_true]
  have mc:=Z2E (C:=C) (ins:=ins) (rows:=rows) (outs:=outs) (by omega)
  refine jF (d:=bQ C ins rows outs) (by simp only [bJ];clear hbits ed;walk_at "ev") ?_
  have lo:∀ f,FltOk ins rows f->cN C [bJ ins rows outs,f.d]=some (LI (iE ins rows outs f)):=fun f hf=>wZ (by omega) (by omega) hr hf (by omega) ho
  refine jF (d:=LI (iE ins rows outs .none)) (aP (xs:=[bJ ins rows outs,Flt.none.d]) rfl (lo .none FltOk.no)) ?_
  refine jF (d:=DTf [] fun f=>.int (bK ins rows outs f)) rfl ?_
  refine jF (d:=DTf [] fun f=>LI (iE ins rows outs f)) rfl ?_
  have lf:=Z13 (C:=C) (ins:=ins) (rows:=rows) (outs:=outs) (by omega) (by omega) hr ho
  have fl:=kO hr ho
  have fok:=fun f hf=>mI (outs:=outs) hr f hf
  have fnd:=J5 hr ho
  have tT:∀ f ∈ cF ins rows outs,IsT (2 ^ ins) (bK ins rows outs f):=fun f hf=>Q1 (iV hr .no) (iV hr (fok f hf).1) outs
  have hd:=Z2S (C:=C) (ins:=ins) (rows:=rows) (outs:=outs) (by omega) (by omega) hr (by omega) ho
  have gq:=W2 (C:=C) (ins:=ins) (rows:=rows) (outs:=outs) (by omega) (by omega) (by omega) hr ho
  have iq:=Z2P (C:=C) (ins:=ins) (rows:=rows) (outs:=outs) (by omega) (by omega) hr (by omega) ho
  have tk0:∀ f ∈ cF ins rows outs,(bK ins rows outs f=0 ↔ iE ins rows outs f=iE ins rows outs .none):=fun f hf=>B4 (n:=2 ^ ins) (iV hr .no) (iV hr (fok f hf).1) outs
  have lt:=fun f=>V2 (C:=C) (A:=bG ins rows .none) (B:=bG ins rows f) (outs:=outs) (by omega)
  have pw:2 ^ ins <= 2 ^ 5:=Nat.pow_le_pow_right (by decide) hi5
  obtain⟨ks,gv⟩:=Z5h (key:=iE ins rows outs) (FS:=cF ins rows outs)
  unfold Z1e at hd
  unfold Z1c at iq
  have gq':kC C [bQ C ins rows outs]=some (.lst ((mO (iE ins rows outs) (cF ins rows outs) (cF ins rows outs).length).2.map GD)):=gq
  generalize cF ins rows outs=FS at *
  generalize hgs:(mO (iE ins rows outs) FS FS.length).2=gs at gv gq'
  have nn:∀ f ∈ FS,f ≠ Flt.none:=fun f hf=>(fok f hf).2
  have hl9:FS.length <= 900:=by omega
  clear gq f1 f2 mc
  let S0:Slot:=some (false,.lst (ns.map D.int))
  let S1:Slot:=some (true,bJ ins rows outs)
  let S2:Slot:=some (true,bQ C ins rows outs)
  let S3:Slot:=some (true,LI (iE ins rows outs .none))
  refine oS (ds:=FS.map Flt.d) (fW (aP (xs:=[bJ ins rows outs]) rfl lf)) (fun i env=>∃ s6,env=[S0,S1,S2,S3,some (true,DTf (FS.take i) fun f=>.int (bK ins rows outs f)),some (true,DTf (FS.take i) fun f=>LI (iE ins rows outs f)),s6,none,none,none]) ⟨none,rfl⟩ ?_ ?_
  . rintro i d env R hd' ⟨s6,rfl⟩ hR
    obtain⟨f,hf,rfl⟩:=dM hd'
    have hfm:=List.mem_of_getElem? hf
    have hfi:=(List.getElem?_eq_some_iff.mp hf).1
    have hnew:f ∉ FS.take i:=by
      intro z
      obtain⟨j,hj⟩:=List.getElem?_of_mem z
      have hj1:=(List.getElem?_eq_some_iff.mp hj).1
      rw [List.length_take] at hj1
      rw [List.getElem?_take_of_lt (by omega)] at hj
      obtain⟨j2,ej⟩:=List.getElem?_eq_some_iff.mp hj
      obtain⟨i2,ei⟩:=List.getElem?_eq_some_iff.mp hf
      have:=(List.getElem_inj fnd (h₀:=j2) (h₁:=i2)).mp (by rw [ej,ei])
      omega
    have nt:∀ g ∈ FS.take i,g ≠ Flt.none:=fun g hg=>nn g (List.mem_of_mem_take hg)
    have nt2:∀ g ∈ FS.take i ++ [f],g ≠ Flt.none:=fun g hg=>(List.mem_append.mp hg).elim (nt g) fun z=>by rw [List.mem_singleton.mp z];exact nn f hfm
    have htl:(FS.take i).length < 1000:=by rw [List.length_take];omega
    refine⟨_,rfl,?_⟩
    have p1:=L6 (i:=5) (fk:=aB 6) (fv:=aQ (cN C) [] (aC (aB 1) (aC (aB 6) aL))) (env:=[S0,S1,S2,S3,some (true,DTf (FS.take i) fun f=>.int (bK ins rows outs f)),some (true,DTf (FS.take i) fun f=>LI (iE ins rows outs f)),some (false,f.d),none,none,none]) (FS:=FS.take i) (φ:=fun f=>LI (iE ins rows outs f)) (f:=f) nt (nn f hfm) hnew htl (aP (xs:=[bJ ins rows outs,f.d]) rfl (lo f (fok f hfm).1)) rfl rfl
    refine Z5u (wEq p1 ?_)
    have g1:=oF (fa:=aB 5) (fb:=aB 6) (env:=[S0,S1,S2,S3,some (true,DTf (FS.take i) fun f=>.int (bK ins rows outs f)),some (true,DTf (FS.take i ++ [f]) fun f=>LI (iE ins rows outs f)),some (false,f.d),none,none,none]) (FS:=FS.take i ++ [f]) (φ:=fun f=>LI (iE ins rows outs f)) (f:=f) nt2 rfl rfl (List.mem_append_right _ (List.mem_singleton.mpr rfl))
    have p2:=L6 (i:=4) (fk:=aB 6) (fv:=aQ (fU C) [] (aC (aB 3) (aC (dC (aB 5) (aB 6)) aL))) (env:=[S0,S1,S2,S3,some (true,DTf (FS.take i) fun f=>.int (bK ins rows outs f)),some (true,DTf (FS.take i ++ [f]) fun f=>LI (iE ins rows outs f)),some (false,f.d),none,none,none]) (FS:=FS.take i) (φ:=fun f=>.int (bK ins rows outs f)) (f:=f) nt (nn f hfm) hnew htl (aP (xs:=[LI (iE ins rows outs .none),LI (iE ins rows outs f)]) (aW rfl (aW g1 rfl)) (lt f)) rfl rfl
    refine wEq p2 (hR _ ⟨some (false,f.d),?_⟩)
    rw [bS hf];rfl
  rintro env ⟨s6,rfl⟩
  rw [List.length_map,List.take_length]
  let S4:Slot:=some (true,DTf FS fun f=>.int (bK ins rows outs f))
  let S4':Slot:=some (false,DTf FS fun f=>.int (bK ins rows outs f))
  let S5:Slot:=some (true,DTf FS fun f=>LI (iE ins rows outs f))
  refine jF (aP (xs:=[bQ C ins rows outs]) rfl hd) ?_
  generalize hHS:FS.filter (fun f=>kD (bK ins rows outs f) (FS.map (bK ins rows outs)))=HS
  have hh:∀ f ∈ HS,f ∈ FS /\ kD (bK ins rows outs f) (FS.map (bK ins rows outs))=true:=fun f hf=>by rw [<- hHS] at hf;exact List.mem_filter.mp hf
  have hhl:HS.length <= 900:=by rw [<- hHS];exact Nat.le_trans (List.length_filter_le _ _) hl9
  have h0:∀ f ∈ HS,bK ins rows outs f ≠ 0:=fun f hf z=>by
    have:=(hh f hf).2
    unfold kD at this
    rw [z] at this
    simp at this
  let S7:Slot:=some (true,.lst (HS.map Flt.d))
  let S7':Slot:=some (false,.lst (HS.map Flt.d))
  have gm:∀ {j:Nat}{env:En}{f:Flt}{b:Bool},env[4]? = some (some (b,DTf FS fun f=>.int (bK ins rows outs f)))->aB j env=some f.d->f ∈ FS->dC (aB 4) (aB j) env=some (.int (bK ins rows outs f)):=fun {j env f b} h4 hj hm=>oF (FS:=FS) (φ:=fun f=>.int (bK ins rows outs f)) nn (by unfold aB;rw [h4];rfl) hj hm
  show Wp (aO _ _ [S0,S1,S2,S3,S4,S5,s6,S7,none,none]) _
  refine oS (ds:=HS.map Flt.d) rfl (fun i env=>∃ s6 s8,env=[S0,S1,S2,S3,S4,S5,s6,S7',s8,none]) ⟨s6,none,rfl⟩ ?_ ?_
  . rintro i d env R hd' ⟨s6,s8,rfl⟩ hR
    obtain⟨f,hf,rfl⟩:=dM hd'
    have hfm:=List.mem_of_getElem? hf
    obtain⟨hfF,hfl⟩:=hh f hfm
    refine⟨_,rfl,?_⟩
    refine wNo (Z0I (Z3f (FS:=FS) (φ:=fun f=>.int (bK ins rows outs f)) (f:=f) nn rfl rfl hfF) ?_) ?_
    . rw [ev_Eq,gm (f:=f) (j:=6) (b:=true) rfl rfl hfF]
      show eqN 8 (.int _) (.int 0)=_
      rw [eqN_int,decide_eq_false (h0 f hfm)]
    refine Z5 (ds:=HS.map Flt.d) rfl (fun i env=>∃ s8,env=[S0,S1,S2,S3,S4,S5,some (false,f.d),S7',s8,none]) ⟨s8,rfl⟩ ?_ ?_
    . rintro j d env R' hd2 ⟨s8,rfl⟩ hR'
      obtain⟨g,hg,rfl⟩:=dM hd2
      have hgm:=List.mem_of_getElem? hg
      have hgF:=(hh g hgm).1
      refine⟨_,rfl,qL ?_ (Z4 (hR' _ ⟨some (false,g.d),rfl⟩))⟩
      let E:En:=[S0,S1,S2,S3,S4,S5,some (false,f.d),S7',some (false,g.d),none]
      have t6:dC (aB 4) (aB 6) E=some (.int (bK ins rows outs f)):=gm (f:=f) (j:=6) (b:=true) rfl rfl hfF
      have t8:dC (aB 4) (aB 8) E=some (.int (bK ins rows outs g)):=gm (f:=g) (j:=8) (b:=true) rfl rfl hgF
      show kG (mQ (fEq (dC (aB 4) (aB 8)) (dC (aB 4) (aB 6)))) (fEq (fI0 (fun i j=>.int (Builtin.bitOr i j)) (dC (aB 4) (aB 8)) (dC (aB 4) (aB 6))) (dC (aB 4) (aB 6))) E=_
      rw [ev_And,ev_Not,ev_Eq,t8,t6]
      simp only [eqN_int,Option.map_some]
      by_cases he:bK ins rows outs g=bK ins rows outs f
      . rw [decide_eq_true he];rfl
      . rw [decide_eq_false he]
        show fEq _ _ E=_
        rw [ev_Eq,O7 t8 t6,t6]
        show eqN 8 (.int _) (.int _)=_
        rw [eqN_int]
        congr 1
        refine decide_eq_false fun z=>he ?_
        unfold kD at hfl
        rw [Bool.and_eq_true] at hfl
        have:=List.all_eq_true.mp hfl.2 (bK ins rows outs g) (List.mem_filter.mpr ⟨List.mem_map_of_mem hgF,by
          unfold cov
          rw [Bool.and_eq_true]
          exact⟨by simp [h0 g hgm],by rw [Z0J (tT f hfF) (tT g hgF)];exact decide_eq_true z⟩⟩)
        exact of_decide_eq_true this
    . rintro env ⟨s8,rfl⟩
      exact hR _ ⟨some (false,f.d),s8,rfl⟩
  rintro env ⟨s6',s8,rfl⟩
  have cm:bZ [4] (dW (aB 7)) fTT (bF (dC (aB 1) (aB 0))) [S0,S1,S2,S3,S4,S5,s6',S7',s8,none]=some (LI (HS.map (bK ins rows outs))):=by
    rw [eO Flt.d (fun f=>.int (bK ins rows outs f)) (xs:=HS) rfl (by omega) (fun f hf=>O6 (oF (FS:=FS) (φ:=fun f=>.int (bK ins rows outs f)) (f:=f) nn rfl rfl (hh f hf).1) rfl)]
    simp [LI,Function.comp_def]
  obtain⟨_,ec,c,rfl,c0,chit⟩:=Z14 (C:=C) (ts:=HS.map (bK ins rows outs)) (ns:=ns) hbits (by rw [List.length_map];exact hhl) (fun t ht=>by
    obtain⟨f,hf,rfl⟩:=List.mem_map.mp ht
    have h1:=tT f (hh f hf).1
    have h2:=h1.nonneg
    have h3:=h0 f hf
    have h4:=Z1G h1
    exact⟨by omega,by omega⟩)
  refine jF (aP (xs:=[LI (HS.map (bK ins rows outs)),LI ns]) (aW cm rfl) ec) ?_
  let S9:Slot:=some (true,.int c)
  show Wp (aO _ _ [S0,S1,S2,S3,S4,S5,s6',S7',s8,S9]) _
  have etd:FS.map (fun f=>Q0 (kE f))=FS.map Flt.d:=List.map_congr_left fun f hf=>Z02 (nn f hf)
  refine oS (ds:=FS.map Flt.d) (by show some ((FS.map kE).map Q0)=_;rw [List.map_map];exact congrArg some etd) (fun i env=>∃ s6,env=[S0,S1,S2,S3,S4',S5,s6,S7',s8,S9]) ⟨s6',rfl⟩ ?_ ?_
  . rintro i d env R hd' ⟨s6,rfl⟩ hR
    obtain⟨f,hf,rfl⟩:=dM hd'
    have hfF:=List.mem_of_getElem? hf
    refine⟨_,rfl,qL ?_ (Z4 (hR _ ⟨some (false,f.d),rfl⟩))⟩
    let E:En:=[S0,S1,S2,S3,S4',S5,some (false,f.d),S7',s8,S9]
    have t6:dC (aB 4) (aB 6) E=some (.int (bK ins rows outs f)):=gm (f:=f) (j:=6) (b:=false) rfl rfl hfF
    show kG (fBI (fun i j=>decide (j < i)) (dC (aB 4) (aB 6)) (fC (.int 0))) (fEq (fI0 (fun i j=>.int (Builtin.bitAnd i j)) (dC (aB 4) (aB 6)) (aB 9)) (fC (.int 0))) E=_
    rw [ev_And,ev_BI,t6]
    by_cases hz:(0:Int) < bK ins rows outs f
    . show (match some (decide ((0:Int) < bK ins rows outs f)) with | some true=>fEq _ _ E | some false=>some false | none=>none)=_
      rw [decide_eq_true hz]
      show fEq _ _ E=_
      rw [ev_Eq,O7 (i:=bK ins rows outs f) (j:=c) t6 rfl]
      show eqN 8 (.int _) (.int 0)=_
      rw [eqN_int]
      refine congrArg some (decide_eq_false ?_)
      have tn:=(tT f hfF).nonneg
      obtain⟨u,hu,hul,hor⟩:=zB (n:=2 ^ ins) (ts:=FS.map (bK ins rows outs)) (fun u hu=>by
        obtain⟨g,hg,rfl⟩:=List.mem_map.mp hu
        exact tT g hg) _ (bK ins rows outs f) (Nat.le_refl _) (List.mem_map_of_mem hfF) (by omega)
      obtain⟨g,hg,rfl⟩:=List.mem_map.mp hu
      have hgH:g ∈ HS:=by rw [<- hHS];exact List.mem_filter.mpr ⟨hg,hul⟩
      exact Z2Q tn c0 (Z4e tn (tT g hg).nonneg (chit _ (List.mem_map_of_mem hgH)) hor)
    . show (match some (decide ((0:Int) < bK ins rows outs f)) with | some true=>fEq _ _ E | some false=>some false | none=>none)=_
      rw [decide_eq_false hz]
  rintro env ⟨s6,rfl⟩
  have lg:=V3 (C:=C) (key:=iE ins rows outs) (tell:=bK ins rows outs) (k0:=iE ins rows outs .none) gv fnd nn hl9 tk0
  exact Z3t (d:=.bl true) (aP (xs:=[.lst (gs.map GD),DTf FS fun f=>.int (bK ins rows outs f),DTf FS fun f=>LI (iE ins rows outs f),.lst ((FS.filter fun f=>decide (bK ins rows outs f=0)).map Flt.d)]) (aW (aP (xs:=[bQ C ins rows outs]) rfl gq') (aW rfl (aW rfl (aW (aP (xs:=[bQ C ins rows outs]) rfl iq) rfl)))) lg) rfl
theorem us0 {Z:List Value->Prop}(h:Z []) (us:List Value) (hl:us.length=0):Z us:=by rw [List.eq_nil_of_length_eq_zero hl];exact h
theorem usS {Z:List Value->Prop}{n:Nat}(h:∀ (a:Value) (t:List Value),t.length=n->Z (a :: t)) (us:List Value) (hl:us.length=n + 1):Z us:=by
  cases us with
  | nil=>exact absurd hl (by simp)
  | cons a t=>exact h a t (Nat.succ.inj hl)
theorem us1 {Z:List Value->Prop}(h:∀ a0:Value,Z [a0]) (us:List Value) (hl:us.length=1):Z us:=usS (n:=0) (fun a=>us0 (Z:=fun t=>Z (a :: t)) (h a)) us hl
theorem us2 {Z:List Value->Prop}(h:∀ a0 a1:Value,Z [a0,a1]) (us:List Value) (hl:us.length=2):Z us:=usS (n:=1) (fun a=>us1 (Z:=fun t=>Z (a :: t)) (h a)) us hl
theorem us3 {Z:List Value->Prop}(h:∀ a0 a1 a2:Value,Z [a0,a1,a2]) (us:List Value) (hl:us.length=3):Z us:=usS (n:=2) (fun a=>us2 (Z:=fun t=>Z (a :: t)) (h a)) us hl
theorem us4 {Z:List Value->Prop}(h:∀ a0 a1 a2 a3:Value,Z [a0,a1,a2,a3]) (us:List Value) (hl:us.length=4):Z us:=usS (n:=3) (fun a=>us3 (Z:=fun t=>Z (a :: t)) (h a)) us hl
theorem us5 {Z:List Value->Prop}(h:∀ a0 a1 a2 a3 a4:Value,Z [a0,a1,a2,a3,a4]) (us:List Value) (hl:us.length=5):Z us:=usS (n:=4) (fun a=>us4 (Z:=fun t=>Z (a :: t)) (h a)) us hl
theorem us6 {Z:List Value->Prop}(h:∀ a0 a1 a2 a3 a4 a5:Value,Z [a0,a1,a2,a3,a4,a5]) (us:List Value) (hl:us.length=6):Z us:=usS (n:=5) (fun a=>us5 (Z:=fun t=>Z (a :: t)) (h a)) us hl
theorem eZ {K:Frag}{H:Hp}:Reps K false H [] [] []:=by simp only [Reps];exact⟨trivial,trivial⟩
theorem head_mk {l:PySem.W.OpenLaw}{w:World}{K:Frag}{h:Heap}{mg:Str->Option Value}{fa:Addr}(X:K.In h) (G:h.Ns mainGlobals mg) (hfa:mg "law" = some (.ref fa))
    {C_Circuit:Addr}
    {f0:Addr}{od0 an0:Option Addr}{sl0:Array (Option Value)}{oc0 kV0 dc0 pm0 cd0 ct0:Value}
    {f1:Addr}{od1 an1:Option Addr}{sl1:Array (Option Value)}{oc1 kV1 dc1 pm1 cd1 ct1:Value}
    {f2:Addr}{od2 an2:Option Addr}{sl2:Array (Option Value)}{oc2 kV2 dc2 pm2 cd2 ct2:Value}
    {f3:Addr}{od3 an3:Option Addr}{sl3:Array (Option Value)}{oc3 kV3 dc3 pm3 cd3 ct3:Value}
    {f4:Addr}{od4 an4:Option Addr}{sl4:Array (Option Value)}{oc4 kV4 dc4 pm4 cd4 ct4:Value}
    {f5:Addr}{od5 an5:Option Addr}{sl5:Array (Option Value)}{oc5 kV5 dc5 pm5 cd5 ct5:Value}
    {f6:Addr}{od6 an6:Option Addr}{sl6:Array (Option Value)}{oc6 kV6 dc6 pm6 cd6 ct6:Value}
    {f7:Addr}{od7 an7:Option Addr}{sl7:Array (Option Value)}{oc7 kV7 dc7 pm7 cd7 ct7:Value}
    {f8:Addr}{od8 an8:Option Addr}{sl8:Array (Option Value)}{oc8 kV8 dc8 pm8 cd8 ct8:Value}
    {T8:Addr}{ocT8:Value}{odT8:Option Addr}{slT8:Array (Option Value)}{nT8:Nat}
    {f9:Addr}{od9 an9:Option Addr}{sl9:Array (Option Value)}{oc9 kV9 dc9 pm9 cd9 ct9:Value}
    {f10:Addr}{od10 an10:Option Addr}{sl10:Array (Option Value)}{oc10 kV10 dc10 pm10 cd10 ct10:Value}
    {T10:Addr}{ocT10:Value}{odT10:Option Addr}{slT10:Array (Option Value)}{nT10:Nat}
    {f11:Addr}{od11 an11:Option Addr}{sl11:Array (Option Value)}{oc11 kV11 dc11 pm11 cd11 ct11:Value}
    {f12:Addr}{od12 an12:Option Addr}{sl12:Array (Option Value)}{oc12 kV12 dc12 pm12 cd12 ct12:Value}
    {f13:Addr}{od13 an13:Option Addr}{sl13:Array (Option Value)}{oc13 kV13 dc13 pm13 cd13 ct13:Value}
    {f14:Addr}{od14 an14:Option Addr}{sl14:Array (Option Value)}{oc14 kV14 dc14 pm14 cd14 ct14:Value}
    {f15:Addr}{od15 an15:Option Addr}{sl15:Array (Option Value)}{oc15 kV15 dc15 pm15 cd15 ct15:Value}
    {f16:Addr}{od16 an16:Option Addr}{sl16:Array (Option Value)}{oc16 kV16 dc16 pm16 cd16 ct16:Value}
    {f17:Addr}{od17 an17:Option Addr}{sl17:Array (Option Value)}{oc17 kV17 dc17 pm17 cd17 ct17:Value}
    {f18:Addr}{od18 an18:Option Addr}{sl18:Array (Option Value)}{oc18 kV18 dc18 pm18 cd18 ct18:Value}
    {f19:Addr}{od19 an19:Option Addr}{sl19:Array (Option Value)}{oc19 kV19 dc19 pm19 cd19 ct19:Value}
    {f20:Addr}{od20 an20:Option Addr}{sl20:Array (Option Value)}{oc20 kV20 dc20 pm20 cd20 ct20:Value}
    {f21:Addr}{od21 an21:Option Addr}{sl21:Array (Option Value)}{oc21 kV21 dc21 pm21 cd21 ct21:Value}
    {f22:Addr}{od22 an22:Option Addr}{sl22:Array (Option Value)}{oc22 kV22 dc22 pm22 cd22 ct22:Value}
    {f23:Addr}{od23 an23:Option Addr}{sl23:Array (Option Value)}{oc23 kV23 dc23 pm23 cd23 ct23:Value}
    {f24:Addr}{od24 an24:Option Addr}{sl24:Array (Option Value)}{oc24 kV24 dc24 pm24 cd24 ct24:Value}
    {f25:Addr}{od25 an25:Option Addr}{sl25:Array (Option Value)}{oc25 kV25 dc25 pm25 cd25 ct25:Value}
    {f26:Addr}{od26 an26:Option Addr}{sl26:Array (Option Value)}{oc26 kV26 dc26 pm26 cd26 ct26:Value}
    {f27:Addr}{od27 an27:Option Addr}{sl27:Array (Option Value)}{oc27 kV27 dc27 pm27 cd27 ct27:Value}
    {f28:Addr}{od28 an28:Option Addr}{sl28:Array (Option Value)}{oc28 kV28 dc28 pm28 cd28 ct28:Value}
    {f29:Addr}{od29 an29:Option Addr}{sl29:Array (Option Value)}{oc29 kV29 dc29 pm29 cd29 ct29:Value}
    {f30:Addr}{od30 an30:Option Addr}{sl30:Array (Option Value)}{oc30 kV30 dc30 pm30 cd30 ct30:Value}
    {f31:Addr}{od31 an31:Option Addr}{sl31:Array (Option Value)}{oc31 kV31 dc31 pm31 cd31 ct31:Value}
    {f32:Addr}{od32 an32:Option Addr}{sl32:Array (Option Value)}{oc32 kV32 dc32 pm32 cd32 ct32:Value}
    {f33:Addr}{od33 an33:Option Addr}{sl33:Array (Option Value)}{oc33 kV33 dc33 pm33 cd33 ct33:Value}
    {f34:Addr}{od34 an34:Option Addr}{sl34:Array (Option Value)}{oc34 kV34 dc34 pm34 cd34 ct34:Value}
    {f35:Addr}{od35 an35:Option Addr}{sl35:Array (Option Value)}{oc35 kV35 dc35 pm35 cd35 ct35:Value}
    {f36:Addr}{od36 an36:Option Addr}{sl36:Array (Option Value)}{oc36 kV36 dc36 pm36 cd36 ct36:Value}
    {f37:Addr}{od37 an37:Option Addr}{sl37:Array (Option Value)}{oc37 kV37 dc37 pm37 cd37 ct37:Value}
    {f38:Addr}{od38 an38:Option Addr}{sl38:Array (Option Value)}{oc38 kV38 dc38 pm38 cd38 ct38:Value}
    {f39:Addr}{od39 an39:Option Addr}{sl39:Array (Option Value)}{oc39 kV39 dc39 pm39 cd39 ct39:Value}
    {f40:Addr}{od40 an40:Option Addr}{sl40:Array (Option Value)}{oc40 kV40 dc40 pm40 cd40 ct40:Value}
    (aC_Circuit:nsIn K mainGlobals "Circuit" = some (some (.ref C_Circuit)))
    (a0:PySem.W.findIn K (.ref C_Circuit) "__init__" = some (some (.ref f0)))
    (l0:K.lookup f0=some ⟨oc0,od0,.func (fnOf "__init__" "Circuit.__init__" (aK cI) (aI cI) (aE cI) .none kV0 dc0 pm0 an0 cd0 ct0),sl0⟩)
    (c0:codeIn K cd0 "Circuit.__init__" = true)
    (k0:keepIn K (.ref f0)=true)
    (i0:PySem.W.isFn K (.ref f0)=true)
    (pg_Circuit:PySem.W.plainGet K C_Circuit Str.empty=true)
    (hd_Circuit:PySem.W.hasDictIn K C_Circuit=true)
    (po_Circuit:PySem.W.plainOver K C_Circuit=true)
    (sa_Circuit:PySem.W.findIn K (.ref C_Circuit) "__setattr__" = some (some (.builtin "object.__setattr__")))
    (mk_Circuit:PySem.W.makesIn K C_Circuit=true)
    (kc_Circuit:keepIn K (.ref C_Circuit)=true)
    (nA_ins:PySem.W.findIn K (.ref C_Circuit) "ins" = some none)
    (nA_rows:PySem.W.findIn K (.ref C_Circuit) "rows" = some none)
    (nA_outs:PySem.W.findIn K (.ref C_Circuit) "outs" = some none)
    (a1:nsIn K mainGlobals "gate_value" = some (some (.ref f1)))
    (l1:K.lookup f1=some ⟨oc1,od1,.func (fnOf "gate_value" "gate_value" (aK dH) (aI dH) (aE dH) .none kV1 dc1 pm1 an1 cd1 ct1),sl1⟩)
    (c1:codeIn K cd1 "gate_value" = true)
    (k1:keepIn K (.ref f1)=true)
    (a2:nsIn K mainGlobals "leg_wires" = some (some (.ref f2)))
    (l2:K.lookup f2=some ⟨oc2,od2,.func (fnOf "leg_wires" "leg_wires" (aK dY) (aI dY) (aE dY) .none kV2 dc2 pm2 an2 cd2 ct2),sl2⟩)
    (c2:codeIn K cd2 "leg_wires" = true)
    (k2:keepIn K (.ref f2)=true)
    (a3:nsIn K mainGlobals "leg_values" = some (some (.ref f3)))
    (l3:K.lookup f3=some ⟨oc3,od3,.func (fnOf "leg_values" "leg_values" (aK dG) (aI dG) (aE dG) .none kV3 dc3 pm3 an3 cd3 ct3),sl3⟩)
    (c3:codeIn K cd3 "leg_values" = true)
    (k3:keepIn K (.ref f3)=true)
    (a4:nsIn K mainGlobals "on_wire" = some (some (.ref f4)))
    (l4:K.lookup f4=some ⟨oc4,od4,.func (fnOf "on_wire" "on_wire" (aK fX) (aI fX) (aE fX) .none kV4 dc4 pm4 an4 cd4 ct4),sl4⟩)
    (c4:codeIn K cd4 "on_wire" = true)
    (k4:keepIn K (.ref f4)=true)
    (a5:nsIn K mainGlobals "borne" = some (some (.ref f5)))
    (l5:K.lookup f5=some ⟨oc5,od5,.func (fnOf "borne" "borne" (aK jI) (aI jI) (aE jI) .none kV5 dc5 pm5 an5 cd5 ct5),sl5⟩)
    (c5:codeIn K cd5 "borne" = true)
    (k5:keepIn K (.ref f5)=true)
    (a6:nsIn K mainGlobals "full_table" = some (some (.ref f6)))
    (l6:K.lookup f6=some ⟨oc6,od6,.func (fnOf "full_table" "full_table" (aK dI) (aI dI) (aE dI) .none kV6 dc6 pm6 an6 cd6 ct6),sl6⟩)
    (c6:codeIn K cd6 "full_table" = true)
    (k6:keepIn K (.ref f6)=true)
    (a7:nsIn K mainGlobals "input_tables" = some (some (.ref f7)))
    (l7:K.lookup f7=some ⟨oc7,od7,.func (fnOf "input_tables" "input_tables" (aK cH) (aI cH) (aE cH) .none kV7 dc7 pm7 an7 cd7 ct7),sl7⟩)
    (c7:codeIn K cd7 "input_tables" = true)
    (k7:keepIn K (.ref f7)=true)
    (a8:nsIn K mainGlobals "tables" = some (some (.ref f8)))
    (l8:K.lookup f8=some ⟨oc8,od8,.func (fnOf "tables" "tables" (aK fH) (aI fH) (aE fH) (.ref T8) kV8 dc8 pm8 an8 cd8 ct8),sl8⟩)
    (c8:codeIn K cd8 "tables" = true)
    (k8:keepIn K (.ref f8)=true)
    (d8:K.lookup T8=some ⟨ocT8,odT8,.seq #[.none] nT8,slT8⟩)
    (a9:nsIn K mainGlobals "at_outs" = some (some (.ref f9)))
    (l9:K.lookup f9=some ⟨oc9,od9,.func (fnOf "at_outs" "at_outs" (aK gD) (aI gD) (aE gD) .none kV9 dc9 pm9 an9 cd9 ct9),sl9⟩)
    (c9:codeIn K cd9 "at_outs" = true)
    (k9:keepIn K (.ref f9)=true)
    (a10:nsIn K mainGlobals "out_tables" = some (some (.ref f10)))
    (l10:K.lookup f10=some ⟨oc10,od10,.func (fnOf "out_tables" "out_tables" (aK cB) (aI cB) (aE cB) (.ref T10) kV10 dc10 pm10 an10 cd10 ct10),sl10⟩)
    (c10:codeIn K cd10 "out_tables" = true)
    (k10:keepIn K (.ref f10)=true)
    (d10:K.lookup T10=some ⟨ocT10,odT10,.seq #[.none] nT10,slT10⟩)
    (a11:nsIn K mainGlobals "sources_of" = some (some (.ref f11)))
    (l11:K.lookup f11=some ⟨oc11,od11,.func (fnOf "sources_of" "sources_of" (aK dF) (aI dF) (aE dF) .none kV11 dc11 pm11 an11 cd11 ct11),sl11⟩)
    (c11:codeIn K cd11 "sources_of" = true)
    (k11:keepIn K (.ref f11)=true)
    (a12:nsIn K mainGlobals "needed" = some (some (.ref f12)))
    (l12:K.lookup f12=some ⟨oc12,od12,.func (fnOf "needed" "needed" (aK hJ) (aI hJ) (aE hJ) .none kV12 dc12 pm12 an12 cd12 ct12),sl12⟩)
    (c12:codeIn K cd12 "needed" = true)
    (k12:keepIn K (.ref f12)=true)
    (a13:nsIn K mainGlobals "bits_to_stick" = some (some (.ref f13)))
    (l13:K.lookup f13=some ⟨oc13,od13,.func (fnOf "bits_to_stick" "bits_to_stick" (aK cC) (aI cC) (aE cC) .none kV13 dc13 pm13 an13 cd13 ct13),sl13⟩)
    (c13:codeIn K cd13 "bits_to_stick" = true)
    (k13:keepIn K (.ref f13)=true)
    (a14:nsIn K mainGlobals "all_faults" = some (some (.ref f14)))
    (l14:K.lookup f14=some ⟨oc14,od14,.func (fnOf "all_faults" "all_faults" (aK dJ) (aI dJ) (aE dJ) .none kV14 dc14 pm14 an14 cd14 ct14),sl14⟩)
    (c14:codeIn K cd14 "all_faults" = true)
    (k14:keepIn K (.ref f14)=true)
    (a15:nsIn K mainGlobals "differing" = some (some (.ref f15)))
    (l15:K.lookup f15=some ⟨oc15,od15,.func (fnOf "differing" "differing" (aK eE) (aI eE) (aE eE) .none kV15 dc15 pm15 an15 cd15 ct15),sl15⟩)
    (c15:codeIn K cd15 "differing" = true)
    (k15:keepIn K (.ref f15)=true)
    (a16:nsIn K mainGlobals "tellings" = some (some (.ref f16)))
    (l16:K.lookup f16=some ⟨oc16,od16,.func (fnOf "tellings" "tellings" (aK eS) (aI eS) (aE eS) .none kV16 dc16 pm16 an16 cd16 ct16),sl16⟩)
    (c16:codeIn K cd16 "tellings" = true)
    (k16:keepIn K (.ref f16)=true)
    (a17:nsIn K mainGlobals "groups" = some (some (.ref f17)))
    (l17:K.lookup f17=some ⟨oc17,od17,.func (fnOf "groups" "groups" (aK hX) (aI hX) (aE hX) .none kV17 dc17 pm17 an17 cd17 ct17),sl17⟩)
    (c17:codeIn K cd17 "groups" = true)
    (k17:keepIn K (.ref f17)=true)
    (a18:nsIn K mainGlobals "idle" = some (some (.ref f18)))
    (l18:K.lookup f18=some ⟨oc18,od18,.func (fnOf "idle" "idle" (aK lU) (aI lU) (aE lU) .none kV18 dc18 pm18 an18 cd18 ct18),sl18⟩)
    (c18:codeIn K cd18 "idle" = true)
    (k18:keepIn K (.ref f18)=true)
    (a19:nsIn K mainGlobals "covers" = some (some (.ref f19)))
    (l19:K.lookup f19=some ⟨oc19,od19,.func (fnOf "covers" "covers" (aK hZ) (aI hZ) (aE hZ) .none kV19 dc19 pm19 an19 cd19 ct19),sl19⟩)
    (c19:codeIn K cd19 "covers" = true)
    (k19:keepIn K (.ref f19)=true)
    (a20:nsIn K mainGlobals "is_least" = some (some (.ref f20)))
    (l20:K.lookup f20=some ⟨oc20,od20,.func (fnOf "is_least" "is_least" (aK eY) (aI eY) (aE eY) .none kV20 dc20 pm20 an20 cd20 ct20),sl20⟩)
    (c20:codeIn K cd20 "is_least" = true)
    (k20:keepIn K (.ref f20)=true)
    (a21:nsIn K mainGlobals "hard" = some (some (.ref f21)))
    (l21:K.lookup f21=some ⟨oc21,od21,.func (fnOf "hard" "hard" (aK lV) (aI lV) (aE lV) .none kV21 dc21 pm21 an21 cd21 ct21),sl21⟩)
    (c21:codeIn K cd21 "hard" = true)
    (k21:keepIn K (.ref f21)=true)
    (a22:nsIn K mainGlobals "_law_at" = some (some (.ref f22)))
    (l22:K.lookup f22=some ⟨oc22,od22,.func (fnOf "_law_at" "_law_at" (aK lT) (aI lT) (aE lT) .none kV22 dc22 pm22 an22 cd22 ct22),sl22⟩)
    (c22:codeIn K cd22 "_law_at" = true)
    (k22:keepIn K (.ref f22)=true)
    (a23:nsIn K mainGlobals "_law_mixed" = some (some (.ref f23)))
    (l23:K.lookup f23=some ⟨oc23,od23,.func (fnOf "_law_mixed" "_law_mixed" (aK fZ) (aI fZ) (aE fZ) .none kV23 dc23 pm23 an23 cd23 ct23),sl23⟩)
    (c23:codeIn K cd23 "_law_mixed" = true)
    (k23:keepIn K (.ref f23)=true)
    (a24:nsIn K mainGlobals "_law_folds" = some (some (.ref f24)))
    (l24:K.lookup f24=some ⟨oc24,od24,.func (fnOf "_law_folds" "_law_folds" (aK gB) (aI gB) (aE gB) .none kV24 dc24 pm24 an24 cd24 ct24),sl24⟩)
    (c24:codeIn K cd24 "_law_folds" = true)
    (k24:keepIn K (.ref f24)=true)
    (a25:nsIn K mainGlobals "_law_rows" = some (some (.ref f25)))
    (l25:K.lookup f25=some ⟨oc25,od25,.func (fnOf "_law_rows" "_law_rows" (aK hU) (aI hU) (aE hU) .none kV25 dc25 pm25 an25 cd25 ct25),sl25⟩)
    (c25:codeIn K cd25 "_law_rows" = true)
    (k25:keepIn K (.ref f25)=true)
    (a26:nsIn K mainGlobals "_law_outs" = some (some (.ref f26)))
    (l26:K.lookup f26=some ⟨oc26,od26,.func (fnOf "_law_outs" "_law_outs" (aK hV) (aI hV) (aE hV) .none kV26 dc26 pm26 an26 cd26 ct26),sl26⟩)
    (c26:codeIn K cd26 "_law_outs" = true)
    (k26:keepIn K (.ref f26)=true)
    (a27:nsIn K mainGlobals "_law_input" = some (some (.ref f27)))
    (l27:K.lookup f27=some ⟨oc27,od27,.func (fnOf "_law_input" "_law_input" (aK gA) (aI gA) (aE gA) .none kV27 dc27 pm27 an27 cd27 ct27),sl27⟩)
    (c27:codeIn K cd27 "_law_input" = true)
    (k27:keepIn K (.ref f27)=true)
    (a28:nsIn K mainGlobals "_law_drawn" = some (some (.ref f28)))
    (l28:K.lookup f28=some ⟨oc28,od28,.func (fnOf "_law_drawn" "_law_drawn" (aK gC) (aI gC) (aE gC) .none kV28 dc28 pm28 an28 cd28 ct28),sl28⟩)
    (c28:codeIn K cd28 "_law_drawn" = true)
    (k28:keepIn K (.ref f28)=true)
    (a29:nsIn K mainGlobals "_law_leg" = some (some (.ref f29)))
    (l29:K.lookup f29=some ⟨oc29,od29,.func (fnOf "_law_leg" "_law_leg" (aK jH) (aI jH) (aE jH) .none kV29 dc29 pm29 an29 cd29 ct29),sl29⟩)
    (c29:codeIn K cd29 "_law_leg" = true)
    (k29:keepIn K (.ref f29)=true)
    (a30:nsIn K mainGlobals "_law_row_table" = some (some (.ref f30)))
    (l30:K.lookup f30=some ⟨oc30,od30,.func (fnOf "_law_row_table" "_law_row_table" (aK cV) (aI cV) (aE cV) .none kV30 dc30 pm30 an30 cd30 ct30),sl30⟩)
    (c30:codeIn K cd30 "_law_row_table" = true)
    (k30:keepIn K (.ref f30)=true)
    (a31:nsIn K mainGlobals "_law_wires" = some (some (.ref f31)))
    (l31:K.lookup f31=some ⟨oc31,od31,.func (fnOf "_law_wires" "_law_wires" (aK fY) (aI fY) (aE fY) .none kV31 dc31 pm31 an31 cd31 ct31),sl31⟩)
    (c31:codeIn K cd31 "_law_wires" = true)
    (k31:keepIn K (.ref f31)=true)
    (a32:nsIn K mainGlobals "_law_out_tables" = some (some (.ref f32)))
    (l32:K.lookup f32=some ⟨oc32,od32,.func (fnOf "_law_out_tables" "_law_out_tables" (aK cG) (aI cG) (aE cG) .none kV32 dc32 pm32 an32 cd32 ct32),sl32⟩)
    (c32:codeIn K cd32 "_law_out_tables" = true)
    (k32:keepIn K (.ref f32)=true)
    (a33:nsIn K mainGlobals "_law_telling" = some (some (.ref f33)))
    (l33:K.lookup f33=some ⟨oc33,od33,.func (fnOf "_law_telling" "_law_telling" (aK dZ) (aI dZ) (aE dZ) .none kV33 dc33 pm33 an33 cd33 ct33),sl33⟩)
    (c33:codeIn K cd33 "_law_telling" = true)
    (k33:keepIn K (.ref f33)=true)
    (a34:nsIn K mainGlobals "_law_own" = some (some (.ref f34)))
    (l34:K.lookup f34=some ⟨oc34,od34,.func (fnOf "_law_own" "_law_own" (aK jG) (aI jG) (aE jG) .none kV34 dc34 pm34 an34 cd34 ct34),sl34⟩)
    (c34:codeIn K cd34 "_law_own" = true)
    (k34:keepIn K (.ref f34)=true)
    (a35:nsIn K mainGlobals "_law_bits_of" = some (some (.ref f35)))
    (l35:K.lookup f35=some ⟨oc35,od35,.func (fnOf "_law_bits_of" "_law_bits_of" (aK eD) (aI eD) (aE eD) .none kV35 dc35 pm35 an35 cd35 ct35),sl35⟩)
    (c35:codeIn K cd35 "_law_bits_of" = true)
    (k35:keepIn K (.ref f35)=true)
    (a36:nsIn K mainGlobals "_law_faults" = some (some (.ref f36)))
    (l36:K.lookup f36=some ⟨oc36,od36,.func (fnOf "_law_faults" "_law_faults" (aK eU) (aI eU) (aE eU) .none kV36 dc36 pm36 an36 cd36 ct36),sl36⟩)
    (c36:codeIn K cd36 "_law_faults" = true)
    (k36:keepIn K (.ref f36)=true)
    (a37:nsIn K mainGlobals "_law_givens" = some (some (.ref f37)))
    (l37:K.lookup f37=some ⟨oc37,od37,.func (fnOf "_law_givens" "_law_givens" (aK eT) (aI eT) (aE eT) .none kV37 dc37 pm37 an37 cd37 ct37),sl37⟩)
    (c37:codeIn K cd37 "_law_givens" = true)
    (k37:keepIn K (.ref f37)=true)
    (a38:nsIn K mainGlobals "_law_chosen" = some (some (.ref f38)))
    (l38:K.lookup f38=some ⟨oc38,od38,.func (fnOf "_law_chosen" "_law_chosen" (aK eV) (aI eV) (aE eV) .none kV38 dc38 pm38 an38 cd38 ct38),sl38⟩)
    (c38:codeIn K cd38 "_law_chosen" = true)
    (k38:keepIn K (.ref f38)=true)
    (a39:nsIn K mainGlobals "_law_grouped" = some (some (.ref f39)))
    (l39:K.lookup f39=some ⟨oc39,od39,.func (fnOf "_law_grouped" "_law_grouped" (aK eB) (aI eB) (aE eB) .none kV39 dc39 pm39 an39 cd39 ct39),sl39⟩)
    (c39:codeIn K cd39 "_law_grouped" = true)
    (k39:keepIn K (.ref f39)=true)
    (a40:nsIn K mainGlobals "law" = some (some (.ref f40)))
    (l40:K.lookup f40=some ⟨oc40,od40,.func (fnOf "law" "law" (aK mL) (aI mL) (aE mL) .none kV40 dc40 pm40 an40 cd40 ct40),sl40⟩)
    (c40:codeIn K cd40 "law" = true)
    (k40:keepIn K (.ref f40)=true)
    (y_all:nsIn K mainGlobals "all" = some none)
    (y_enumerate:nsIn K mainGlobals "enumerate" = some none)
    (y_int:nsIn K mainGlobals "int" = some none)
    (y_len:nsIn K mainGlobals "len" = some none)
    (y_list:nsIn K mainGlobals "list" = some none)
    (y_max:nsIn K mainGlobals "max" = some none)
    (y_min:nsIn K mainGlobals "min" = some none)
    (y_range:nsIn K mainGlobals "range" = some none)
    (y_reversed:nsIn K mainGlobals "reversed" = some none)
    (y_sorted:nsIn K mainGlobals "sorted" = some none)
    (y_tuple:nsIn K mainGlobals "tuple" = some none)
    (y_zip:nsIn K mainGlobals "zip" = some none) :
    ∃ (fd:FuncData) (m:List D->Option D),(∀ (s:Shared) (u:Value),BindsTo s fd ⟨[u],[]⟩ [("_law_script",u)]) /\ (∀ ns:List Int,ns.length <= 63->(∀ i ∈ ns,Builtin.Int.intBits i <= 1048576)->m [.lst (ns.map D.int)]=some (.bl true)) /\
      ∀ base:Heap,K.In base->base.Ns mainGlobals mg->FnOk l.prog w K mg base CX0 8 fa fd ["_law_script"] (spD K 1 m):=by
  have e:=hfa.symm.trans (mg_of X G a40)
  cases e
  have z_all:=PySem.W.mg_none_of X G y_all
  have z_enumerate:=PySem.W.mg_none_of X G y_enumerate
  have z_int:=PySem.W.mg_none_of X G y_int
  have z_len:=PySem.W.mg_none_of X G y_len
  have z_list:=PySem.W.mg_none_of X G y_list
  have z_max:=PySem.W.mg_none_of X G y_max
  have z_min:=PySem.W.mg_none_of X G y_min
  have z_range:=PySem.W.mg_none_of X G y_range
  have z_reversed:=PySem.W.mg_none_of X G y_reversed
  have z_sorted:=PySem.W.mg_none_of X G y_sorted
  have z_tuple:=PySem.W.mg_none_of X G y_tuple
  have z_zip:=PySem.W.mg_none_of X G y_zip
  have hC_Circuit:Cls K C_Circuit:=⟨pg_Circuit,hd_Circuit,po_Circuit,sa_Circuit⟩
  have F0:=bC (st:=cI) l0 c0 k0
  have b0:Binds K _ ["self","ins","rows","outs"] []:=.all (fd:=fnOf "__init__" "Circuit.__init__" (aK cI) (aI cI) (aE cI) .none kV0 dc0 pm0 an0 cd0 ct0) (us4 fun _ _ _ _=>rfl)
  have F1:=bC (st:=dH) l1 c1 k1
  have b1:Binds K (fnOf "gate_value" "gate_value" (aK dH) (aI dH) (aE dH) .none kV1 dc1 pm1 an1 cd1 ct1) ["row","legs","ones"] []:=.all (us3 fun _ _ _=>rfl)
  have F2:=bC (st:=dY) l2 c2 k2
  have b2:Binds K (fnOf "leg_wires" "leg_wires" (aK dY) (aI dY) (aE dY) .none kV2 dc2 pm2 an2 cd2 ct2) ["row"] []:=.all (us1 fun _=>rfl)
  have F3:=bC (st:=dG) l3 c3 k3
  have b3:Binds K (fnOf "leg_values" "leg_values" (aK dG) (aI dG) (aE dG) .none kV3 dc3 pm3 an3 cd3 ct3) ["row","wire","values","ones","fault"] []:=.all (us5 fun _ _ _ _ _=>rfl)
  have F4:=bC (st:=fX) l4 c4 k4
  have b4:Binds K (fnOf "on_wire" "on_wire" (aK fX) (aI fX) (aE fX) .none kV4 dc4 pm4 an4 cd4 ct4) ["value","wire","ones","fault"] []:=.all (us4 fun _ _ _ _=>rfl)
  have F5:=bC (st:=jI) l5 c5 k5
  have b5:Binds K (fnOf "borne" "borne" (aK jI) (aI jI) (aE jI) .none kV5 dc5 pm5 an5 cd5 ct5) ["circuit","starts","ones","fault"] []:=.all (us4 fun _ _ _ _=>rfl)
  have F6:=bC (st:=dI) l6 c6 k6
  have b6:Binds K (fnOf "full_table" "full_table" (aK dI) (aI dI) (aE dI) .none kV6 dc6 pm6 an6 cd6 ct6) ["ins"] []:=.all (us1 fun _=>rfl)
  have F7:=bC (st:=cH) l7 c7 k7
  have b7:Binds K (fnOf "input_tables" "input_tables" (aK cH) (aI cH) (aE cH) .none kV7 dc7 pm7 an7 cd7 ct7) ["ins"] []:=.all (us1 fun _=>rfl)
  have F8:=bC (st:=fH) l8 c8 k8
  have b8:Binds K (fnOf "tables" "tables" (aK fH) (aI fH) (aE fH) (.ref T8) kV8 dc8 pm8 an8 cd8 ct8) ["circuit","fault"] []:=fun s us ks hl=>match us,hl with | [_,_],_=>.of_defaults rfl (ks _ _ d8) rfl rfl rfl
  have bd8:Binds K (fnOf "tables" "tables" (aK fH) (aI fH) (aE fH) (.ref T8) kV8 dc8 pm8 an8 cd8 ct8) ["circuit","fault"] [.none]:=fun s us ks hl=>(match us,(show us.length=1 by simpa using hl) with | [_],_=>.of_defaults rfl (ks _ _ d8) rfl rfl rfl)
  have F9:=bC (st:=gD) l9 c9 k9
  have b9:Binds K (fnOf "at_outs" "at_outs" (aK gD) (aI gD) (aE gD) .none kV9 dc9 pm9 an9 cd9 ct9) ["circuit","values"] []:=.all (us2 fun _ _=>rfl)
  have F10:=bC (st:=cB) l10 c10 k10
  have b10:Binds K (fnOf "out_tables" "out_tables" (aK cB) (aI cB) (aE cB) (.ref T10) kV10 dc10 pm10 an10 cd10 ct10) ["circuit","fault"] []:=fun s us ks hl=>match us,hl with | [_,_],_=>.of_defaults rfl (ks _ _ d10) rfl rfl rfl
  have bd10:Binds K (fnOf "out_tables" "out_tables" (aK cB) (aI cB) (aE cB) (.ref T10) kV10 dc10 pm10 an10 cd10 ct10) ["circuit","fault"] [.none]:=fun s us ks hl=>(match us,(show us.length=1 by simpa using hl) with | [_],_=>.of_defaults rfl (ks _ _ d10) rfl rfl rfl)
  have F11:=bC (st:=dF) l11 c11 k11
  have b11:Binds K (fnOf "sources_of" "sources_of" (aK dF) (aI dF) (aE dF) .none kV11 dc11 pm11 an11 cd11 ct11) ["circuit","wire"] []:=.all (us2 fun _ _=>rfl)
  have F12:=bC (st:=hJ) l12 c12 k12
  have b12:Binds K (fnOf "needed" "needed" (aK hJ) (aI hJ) (aE hJ) .none kV12 dc12 pm12 an12 cd12 ct12) ["circuit"] []:=.all (us1 fun _=>rfl)
  have F13:=bC (st:=cC) l13 c13 k13
  have b13:Binds K (fnOf "bits_to_stick" "bits_to_stick" (aK cC) (aI cC) (aE cC) .none kV13 dc13 pm13 an13 cd13 ct13) ["circuit","wire"] []:=.all (us2 fun _ _=>rfl)
  have F14:=bC (st:=dJ) l14 c14 k14
  have b14:Binds K (fnOf "all_faults" "all_faults" (aK dJ) (aI dJ) (aE dJ) .none kV14 dc14 pm14 an14 cd14 ct14) ["circuit"] []:=.all (us1 fun _=>rfl)
  have F15:=bC (st:=eE) l15 c15 k15
  have b15:Binds K (fnOf "differing" "differing" (aK eE) (aI eE) (aE eE) .none kV15 dc15 pm15 an15 cd15 ct15) ["one_tables","other_tables"] []:=.all (us2 fun _ _=>rfl)
  have F16:=bC (st:=eS) l16 c16 k16
  have b16:Binds K (fnOf "tellings" "tellings" (aK eS) (aI eS) (aE eS) .none kV16 dc16 pm16 an16 cd16 ct16) ["circuit","faults"] []:=.all (us2 fun _ _=>rfl)
  have F17:=bC (st:=hX) l17 c17 k17
  have b17:Binds K (fnOf "groups" "groups" (aK hX) (aI hX) (aE hX) .none kV17 dc17 pm17 an17 cd17 ct17) ["circuit"] []:=.all (us1 fun _=>rfl)
  have F18:=bC (st:=lU) l18 c18 k18
  have b18:Binds K (fnOf "idle" "idle" (aK lU) (aI lU) (aE lU) .none kV18 dc18 pm18 an18 cd18 ct18) ["circuit"] []:=.all (us1 fun _=>rfl)
  have F19:=bC (st:=hZ) l19 c19 k19
  have b19:Binds K (fnOf "covers" "covers" (aK hZ) (aI hZ) (aE hZ) .none kV19 dc19 pm19 an19 cd19 ct19) ["one_told","other_told"] []:=.all (us2 fun _ _=>rfl)
  have F20:=bC (st:=eY) l20 c20 k20
  have b20:Binds K (fnOf "is_least" "is_least" (aK eY) (aI eY) (aE eY) .none kV20 dc20 pm20 an20 cd20 ct20) ["told","every_told"] []:=.all (us2 fun _ _=>rfl)
  have F21:=bC (st:=lV) l21 c21 k21
  have b21:Binds K (fnOf "hard" "hard" (aK lV) (aI lV) (aE lV) .none kV21 dc21 pm21 an21 cd21 ct21) ["circuit"] []:=.all (us1 fun _=>rfl)
  have F22:=bC (st:=lT) l22 c22 k22
  have b22:Binds K (fnOf "_law_at" "_law_at" (aK lT) (aI lT) (aE lT) .none kV22 dc22 pm22 an22 cd22 ct22) ["_law_script","_law_k"] []:=.all (us2 fun _ _=>rfl)
  have F23:=bC (st:=fZ) l23 c23 k23
  have b23:Binds K (fnOf "_law_mixed" "_law_mixed" (aK fZ) (aI fZ) (aE fZ) .none kV23 dc23 pm23 an23 cd23 ct23) ["_law_cell","_law_k"] []:=.all (us2 fun _ _=>rfl)
  have F24:=bC (st:=gB) l24 c24 k24
  have b24:Binds K (fnOf "_law_folds" "_law_folds" (aK gB) (aI gB) (aE gB) .none kV24 dc24 pm24 an24 cd24 ct24) ["_law_script","_law_many"] []:=.all (us2 fun _ _=>rfl)
  have F25:=bC (st:=hU) l25 c25 k25
  have b25:Binds K (fnOf "_law_rows" "_law_rows" (aK hU) (aI hU) (aE hU) .none kV25 dc25 pm25 an25 cd25 ct25) ["_law_ins","_law_numbers"] []:=.all (us2 fun _ _=>rfl)
  have F26:=bC (st:=hV) l26 c26 k26
  have b26:Binds K (fnOf "_law_outs" "_law_outs" (aK hV) (aI hV) (aE hV) .none kV26 dc26 pm26 an26 cd26 ct26) ["_law_all_wires","_law_number"] []:=.all (us2 fun _ _=>rfl)
  have F27:=bC (st:=gA) l27 c27 k27
  have b27:Binds K (fnOf "_law_input" "_law_input" (aK gA) (aI gA) (aE gA) .none kV27 dc27 pm27 an27 cd27 ct27) ["_law_ins","_law_k"] []:=.all (us2 fun _ _=>rfl)
  have F28:=bC (st:=gC) l28 c28 k28
  have b28:Binds K (fnOf "_law_drawn" "_law_drawn" (aK gC) (aI gC) (aE gC) .none kV28 dc28 pm28 an28 cd28 ct28) ["_law_script"] []:=.all (us1 fun _=>rfl)
  have F29:=bC (st:=jH) l29 c29 k29
  have b29:Binds K (fnOf "_law_leg" "_law_leg" (aK jH) (aI jH) (aE jH) .none kV29 dc29 pm29 an29 cd29 ct29) ["_law_seen","_law_row","_law_leg_here","_law_fault","_law_wire","_law_most"] []:=.all (us6 fun _ _ _ _ _ _=>rfl)
  have F30:=bC (st:=cV) l30 c30 k30
  have b30:Binds K (fnOf "_law_row_table" "_law_row_table" (aK cV) (aI cV) (aE cV) .none kV30 dc30 pm30 an30 cd30 ct30) ["_law_seen","_law_row","_law_fault","_law_wire","_law_most"] []:=.all (us5 fun _ _ _ _ _=>rfl)
  have F31:=bC (st:=fY) l31 c31 k31
  have b31:Binds K (fnOf "_law_wires" "_law_wires" (aK fY) (aI fY) (aE fY) .none kV31 dc31 pm31 an31 cd31 ct31) ["_law_drawn_here","_law_fault"] []:=.all (us2 fun _ _=>rfl)
  have F32:=bC (st:=cG) l32 c32 k32
  have b32:Binds K (fnOf "_law_out_tables" "_law_out_tables" (aK cG) (aI cG) (aE cG) .none kV32 dc32 pm32 an32 cd32 ct32) ["_law_drawn_here","_law_fault"] []:=.all (us2 fun _ _=>rfl)
  have F33:=bC (st:=dZ) l33 c33 k33
  have b33:Binds K (fnOf "_law_telling" "_law_telling" (aK dZ) (aI dZ) (aE dZ) .none kV33 dc33 pm33 an33 cd33 ct33) ["_law_good","_law_bad"] []:=.all (us2 fun _ _=>rfl)
  have F34:=bC (st:=jG) l34 c34 k34
  have b34:Binds K (fnOf "_law_own" "_law_own" (aK jG) (aI jG) (aE jG) .none kV34 dc34 pm34 an34 cd34 ct34) ["_law_drawn_here","_law_wire"] []:=.all (us2 fun _ _=>rfl)
  have F35:=bC (st:=eD) l35 c35 k35
  have b35:Binds K (fnOf "_law_bits_of" "_law_bits_of" (aK eD) (aI eD) (aE eD) .none kV35 dc35 pm35 an35 cd35 ct35) ["_law_drawn_here","_law_wire"] []:=.all (us2 fun _ _=>rfl)
  have F36:=bC (st:=eU) l36 c36 k36
  have b36:Binds K (fnOf "_law_faults" "_law_faults" (aK eU) (aI eU) (aE eU) .none kV36 dc36 pm36 an36 cd36 ct36) ["_law_drawn_here"] []:=.all (us1 fun _=>rfl)
  have F37:=bC (st:=eT) l37 c37 k37
  have b37:Binds K (fnOf "_law_givens" "_law_givens" (aK eT) (aI eT) (aE eT) .none kV37 dc37 pm37 an37 cd37 ct37) ["_law_mask"] []:=.all (us1 fun _=>rfl)
  have F38:=bC (st:=eV) l38 c38 k38
  have b38:Binds K (fnOf "_law_chosen" "_law_chosen" (aK eV) (aI eV) (aE eV) .none kV38 dc38 pm38 an38 cd38 ct38) ["_law_masks","_law_script"] []:=.all (us2 fun _ _=>rfl)
  have F39:=bC (st:=eB) l39 c39 k39
  have b39:Binds K (fnOf "_law_grouped" "_law_grouped" (aK eB) (aI eB) (aE eB) .none kV39 dc39 pm39 an39 cd39 ct39) ["_law_found","_law_masks","_law_tables_of","_law_spare"] []:=.all (us4 fun _ _ _ _=>rfl)
  have F40:=bC (st:=mL) l40 c40 k40
  have b40:Binds K (fnOf "law" "law" (aK mL) (aI mL) (aE mL) .none kV40 dc40 pm40 an40 cd40 ct40) ["_law_script"] []:=.all (us1 fun _=>rfl)
  refine⟨fnOf "law" "law" (aK mL) (aI mL) (aE mL) .none kV40 dc40 pm40 an40 cd40 ct40,Z0W C_Circuit,fun s u=>.of_eq rfl,Z0Z,fun base KB NB=>?_⟩
  have mk_Circuit:Z1M l.prog w K mg base "Circuit" C_Circuit 1 3 (iL C_Circuit):=⟨⟨f0,_,_,⟨mk_Circuit,a0,i0,kc_Circuit⟩,rJ F0 z_list z_tuple hC_Circuit nA_ins nA_rows nA_outs,mg_of X G aC_Circuit,b0⟩⟩
  have G1:FnOk l.prog w K mg base CX0 1 f1 _ _ (spD K 3 (cX C_Circuit)):=uH (C:=C_Circuit) F1
  have Cc1:aM l.prog w K mg base "gate_value" [] 1 3 (cX C_Circuit):=⟨⟨f1,_,_,[],[],G1,mg_of X G a1,k1,b1,.nil,fun _=>eZ⟩⟩
  have G2:FnOk l.prog w K mg base CX0 1 f2 _ _ (spD K 1 (cP C_Circuit)):=wQ (C:=C_Circuit) F2 z_list
  have Cc2:aM l.prog w K mg base "leg_wires" [] 1 1 (cP C_Circuit):=⟨⟨f2,_,_,[],[],G2,mg_of X G a2,k2,b2,.nil,fun _=>eZ⟩⟩
  have G3:FnOk l.prog w K mg base CX0 2 f3 _ _ (spD K 5 (cM C_Circuit)):=uG (C:=C_Circuit) F3 Cc2
  have Cc3:aM l.prog w K mg base "leg_values" [] 2 5 (cM C_Circuit):=⟨⟨f3,_,_,[],[],G3,mg_of X G a3,k3,b3,.nil,fun _=>eZ⟩⟩
  have G4:FnOk l.prog w K mg base CX0 1 f4 _ _ (spD K 4 (dX C_Circuit)):=D0 (C:=C_Circuit) F4
  have Cc4:aM l.prog w K mg base "on_wire" [] 1 4 (dX C_Circuit):=⟨⟨f4,_,_,[],[],G4,mg_of X G a4,k4,b4,.nil,fun _=>eZ⟩⟩
  have G5:FnOk l.prog w K mg base CX0 3 f5 _ _ (spD K 4 (nS C_Circuit)):=Z0Q (C:=C_Circuit) F5 Cc1 Cc3 Cc4 z_len hC_Circuit nA_rows
  have Cc5:aM l.prog w K mg base "borne" [] 3 4 (nS C_Circuit):=⟨⟨f5,_,_,[],[],G5,mg_of X G a5,k5,b5,.nil,fun _=>eZ⟩⟩
  have G6:FnOk l.prog w K mg base CX0 1 f6 _ _ (spD K 1 (dN C_Circuit)):=uI (C:=C_Circuit) F6
  have Cc6:aM l.prog w K mg base "full_table" [] 1 1 (dN C_Circuit):=⟨⟨f6,_,_,[],[],G6,mg_of X G a6,k6,b6,.nil,fun _=>eZ⟩⟩
  have G7:FnOk l.prog w K mg base CX0 2 f7 _ _ (spD K 1 (eN C_Circuit)):=rH (C:=C_Circuit) F7 Cc6 z_range
  have Cc7:aM l.prog w K mg base "input_tables" [] 2 1 (eN C_Circuit):=⟨⟨f7,_,_,[],[],G7,mg_of X G a7,k7,b7,.nil,fun _=>eZ⟩⟩
  have G8:FnOk l.prog w K mg base CX0 4 f8 _ _ (spD K 2 (kB C_Circuit)):=U1 (C:=C_Circuit) F8 Cc5 Cc6 Cc7 hC_Circuit nA_ins
  have Cc8:aM l.prog w K mg base "tables" [] 4 2 (kB C_Circuit):=⟨⟨f8,_,_,[],[],G8,mg_of X G a8,k8,b8,.nil,fun _=>eZ⟩⟩
  have Cc_tables_d:aM l.prog w K mg base "tables" [.non] 4 2 (kB C_Circuit):=⟨⟨f8,_,_,[.non],[.none],G8,mg_of X G a8,k8,bd8,.cons rfl .nil,fun H=>by simp only [Reps];exact⟨.non,[],[],[],rfl,rfl,wW,rfl,rfl⟩⟩⟩
  have G9:FnOk l.prog w K mg base CX0 1 f9 _ _ (spD K 2 (jT C_Circuit)):=D6 (C:=C_Circuit) F9 hC_Circuit nA_outs
  have Cc9:aM l.prog w K mg base "at_outs" [] 1 2 (jT C_Circuit):=⟨⟨f9,_,_,[],[],G9,mg_of X G a9,k9,b9,.nil,fun _=>eZ⟩⟩
  have G10:FnOk l.prog w K mg base CX0 5 f10 _ _ (spD K 2 (bY C_Circuit)):=uF (C:=C_Circuit) F10 Cc9 Cc8
  have Cc10:aM l.prog w K mg base "out_tables" [] 5 2 (bY C_Circuit):=⟨⟨f10,_,_,[],[],G10,mg_of X G a10,k10,b10,.nil,fun _=>eZ⟩⟩
  have Cc_out_tables_d:aM l.prog w K mg base "out_tables" [.non] 5 2 (bY C_Circuit):=⟨⟨f10,_,_,[.non],[.none],G10,mg_of X G a10,k10,bd10,.cons rfl .nil,fun H=>by simp only [Reps];exact⟨.non,[],[],[],rfl,rfl,wW,rfl,rfl⟩⟩⟩
  have G11:FnOk l.prog w K mg base CX0 2 f11 _ _ (spD K 2 (cE C_Circuit)):=uE (C:=C_Circuit) F11 Cc2 hC_Circuit nA_ins nA_rows
  have Cc11:aM l.prog w K mg base "sources_of" [] 2 2 (cE C_Circuit):=⟨⟨f11,_,_,[],[],G11,mg_of X G a11,k11,b11,.nil,fun _=>eZ⟩⟩
  have G12:FnOk l.prog w K mg base CX0 3 f12 _ _ (spD K 1 (lF C_Circuit)):=U2 (C:=C_Circuit) F12 Cc11 z_len z_range z_sorted hC_Circuit nA_ins nA_outs nA_rows
  have Cc12:aM l.prog w K mg base "needed" [] 3 1 (lF C_Circuit):=⟨⟨f12,_,_,[],[],G12,mg_of X G a12,k12,b12,.nil,fun _=>eZ⟩⟩
  have G13:FnOk l.prog w K mg base CX0 1 f13 _ _ (spD K 2 (bE C_Circuit)):=pU (C:=C_Circuit) F13 hC_Circuit nA_ins nA_rows
  have Cc13:aM l.prog w K mg base "bits_to_stick" [] 1 2 (bE C_Circuit):=⟨⟨f13,_,_,[],[],G13,mg_of X G a13,k13,b13,.nil,fun _=>eZ⟩⟩
  have G14:FnOk l.prog w K mg base CX0 4 f14 _ _ (spD K 1 (cY C_Circuit)):=uJ (C:=C_Circuit) F14 Cc13 Cc12 Cc11 z_enumerate
  have Cc14:aM l.prog w K mg base "all_faults" [] 4 1 (cY C_Circuit):=⟨⟨f14,_,_,[],[],G14,mg_of X G a14,k14,b14,.nil,fun _=>eZ⟩⟩
  have G15:FnOk l.prog w K mg base CX0 1 f15 _ _ (spD K 2 (hE C_Circuit)):=wU (C:=C_Circuit) F15 z_zip
  have Cc15:aM l.prog w K mg base "differing" [] 1 2 (hE C_Circuit):=⟨⟨f15,_,_,[],[],G15,mg_of X G a15,k15,b15,.nil,fun _=>eZ⟩⟩
  have G16:FnOk l.prog w K mg base CX0 6 f16 _ _ (spD K 2 (fT C_Circuit)):=yR (C:=C_Circuit) F16 Cc15 Cc_out_tables_d Cc10
  have Cc16:aM l.prog w K mg base "tellings" [] 6 2 (fT C_Circuit):=⟨⟨f16,_,_,[],[],G16,mg_of X G a16,k16,b16,.nil,fun _=>eZ⟩⟩
  have G17:FnOk l.prog w K mg base CX0 6 f17 _ _ (spD K 1 (kC C_Circuit)):=U5 (C:=C_Circuit) F17 Cc14 Cc10 z_list z_tuple
  have Cc17:aM l.prog w K mg base "groups" [] 6 1 (kC C_Circuit):=⟨⟨f17,_,_,[],[],G17,mg_of X G a17,k17,b17,.nil,fun _=>eZ⟩⟩
  have G18:FnOk l.prog w K mg base CX0 7 f18 _ _ (spD K 1 (pW C_Circuit)):=Z2x (C:=C_Circuit) F18 Cc14 Cc16 z_zip
  have Cc18:aM l.prog w K mg base "idle" [] 7 1 (pW C_Circuit):=⟨⟨f18,_,_,[],[],G18,mg_of X G a18,k18,b18,.nil,fun _=>eZ⟩⟩
  have G19:FnOk l.prog w K mg base CX0 1 f19 _ _ (spD K 2 (iX C_Circuit)):=U6 (C:=C_Circuit) F19
  have Cc19:aM l.prog w K mg base "covers" [] 1 2 (iX C_Circuit):=⟨⟨f19,_,_,[],[],G19,mg_of X G a19,k19,b19,.nil,fun _=>eZ⟩⟩
  have G20:FnOk l.prog w K mg base CX0 2 f20 _ _ (spD K 2 (fV C_Circuit)):=yV (C:=C_Circuit) F20 Cc19 z_all
  have Cc20:aM l.prog w K mg base "is_least" [] 2 2 (fV C_Circuit):=⟨⟨f20,_,_,[],[],G20,mg_of X G a20,k20,b20,.nil,fun _=>eZ⟩⟩
  have G21:FnOk l.prog w K mg base CX0 7 f21 _ _ (spD K 1 (pX C_Circuit)):=Z2y (C:=C_Circuit) F21 Cc14 Cc20 Cc16 z_zip
  have Cc21:aM l.prog w K mg base "hard" [] 7 1 (pX C_Circuit):=⟨⟨f21,_,_,[],[],G21,mg_of X G a21,k21,b21,.nil,fun _=>eZ⟩⟩
  have G22:FnOk l.prog w K mg base CX0 1 f22 _ _ (spD K 2 (jB C_Circuit)):=Z2w (C:=C_Circuit) F22 z_len
  have Cc22:aM l.prog w K mg base "_law_at" [] 1 2 (jB C_Circuit):=⟨⟨f22,_,_,[],[],G22,mg_of X G a22,k22,b22,.nil,fun _=>eZ⟩⟩
  have G23:FnOk l.prog w K mg base CX0 1 f23 _ _ (spD K 2 (fK C_Circuit)):=D2 (C:=C_Circuit) F23
  have Cc23:aM l.prog w K mg base "_law_mixed" [] 1 2 (fK C_Circuit):=⟨⟨f23,_,_,[],[],G23,mg_of X G a23,k23,b23,.nil,fun _=>eZ⟩⟩
  have G24:FnOk l.prog w K mg base CX0 2 f24 _ _ (spD K 2 (jR C_Circuit)):=D4 (C:=C_Circuit) F24 Cc23 z_len z_range
  have Cc24:aM l.prog w K mg base "_law_folds" [] 2 2 (jR C_Circuit):=⟨⟨f24,_,_,[],[],G24,mg_of X G a24,k24,b24,.nil,fun _=>eZ⟩⟩
  have G25:FnOk l.prog w K mg base CX0 1 f25 _ _ (spD K 2 (lG C_Circuit)):=U3 (C:=C_Circuit) F25 z_len z_max z_min
  have Cc25:aM l.prog w K mg base "_law_rows" [] 1 2 (lG C_Circuit):=⟨⟨f25,_,_,[],[],G25,mg_of X G a25,k25,b25,.nil,fun _=>eZ⟩⟩
  have G26:FnOk l.prog w K mg base CX0 1 f26 _ _ (spD K 2 (lH C_Circuit)):=U4 (C:=C_Circuit) F26 z_len z_range
  have Cc26:aM l.prog w K mg base "_law_outs" [] 1 2 (lH C_Circuit):=⟨⟨f26,_,_,[],[],G26,mg_of X G a26,k26,b26,.nil,fun _=>eZ⟩⟩
  have G27:FnOk l.prog w K mg base CX0 1 f27 _ _ (spD K 2 (gY C_Circuit)):=D3 (C:=C_Circuit) F27 z_range
  have Cc27:aM l.prog w K mg base "_law_input" [] 1 2 (gY C_Circuit):=⟨⟨f27,_,_,[],[],G27,mg_of X G a27,k27,b27,.nil,fun _=>eZ⟩⟩
  have G28:FnOk l.prog w K mg base CX0 3 f28 _ _ (spD K 1 (jS C_Circuit)):=D5 (C:=C_Circuit) F28 Cc22 Cc24 Cc27 Cc26 Cc25 z_int z_len z_range
  have Cc28:aM l.prog w K mg base "_law_drawn" [] 3 1 (jS C_Circuit):=⟨⟨f28,_,_,[],[],G28,mg_of X G a28,k28,b28,.nil,fun _=>eZ⟩⟩
  have G29:FnOk l.prog w K mg base CX0 1 f29 _ _ (spD K 6 (mD C_Circuit)):=Z0P (C:=C_Circuit) F29
  have Cc29:aM l.prog w K mg base "_law_leg" [] 1 6 (mD C_Circuit):=⟨⟨f29,_,_,[],[],G29,mg_of X G a29,k29,b29,.nil,fun _=>eZ⟩⟩
  have G30:FnOk l.prog w K mg base CX0 2 f30 _ _ (spD K 5 (cW C_Circuit)):=sR (C:=C_Circuit) F30 Cc29
  have Cc30:aM l.prog w K mg base "_law_row_table" [] 2 5 (cW C_Circuit):=⟨⟨f30,_,_,[],[],G30,mg_of X G a30,k30,b30,.nil,fun _=>eZ⟩⟩
  have G31:FnOk l.prog w K mg base CX0 3 f31 _ _ (spD K 2 (jQ C_Circuit)):=D1 (C:=C_Circuit) F31 Cc30 z_len z_range
  have Cc31:aM l.prog w K mg base "_law_wires" [] 3 2 (jQ C_Circuit):=⟨⟨f31,_,_,[],[],G31,mg_of X G a31,k31,b31,.nil,fun _=>eZ⟩⟩
  have G32:FnOk l.prog w K mg base CX0 4 f32 _ _ (spD K 2 (cN C_Circuit)):=rG (C:=C_Circuit) F32 Cc31
  have Cc32:aM l.prog w K mg base "_law_out_tables" [] 4 2 (cN C_Circuit):=⟨⟨f32,_,_,[],[],G32,mg_of X G a32,k32,b32,.nil,fun _=>eZ⟩⟩
  have G33:FnOk l.prog w K mg base CX0 1 f33 _ _ (spD K 2 (fU C_Circuit)):=wR (C:=C_Circuit) F33 z_len z_range
  have Cc33:aM l.prog w K mg base "_law_telling" [] 1 2 (fU C_Circuit):=⟨⟨f33,_,_,[],[],G33,mg_of X G a33,k33,b33,.nil,fun _=>eZ⟩⟩
  have G34:FnOk l.prog w K mg base CX0 1 f34 _ _ (spD K 2 (jL C_Circuit)):=Z0O (C:=C_Circuit) F34 z_list
  have Cc34:aM l.prog w K mg base "_law_own" [] 1 2 (jL C_Circuit):=⟨⟨f34,_,_,[],[],G34,mg_of X G a34,k34,b34,.nil,fun _=>eZ⟩⟩
  have G35:FnOk l.prog w K mg base CX0 1 f35 _ _ (spD K 2 (dB C_Circuit)):=wT (C:=C_Circuit) F35
  have Cc35:aM l.prog w K mg base "_law_bits_of" [] 1 2 (dB C_Circuit):=⟨⟨f35,_,_,[],[],G35,mg_of X G a35,k35,b35,.nil,fun _=>eZ⟩⟩
  have G36:FnOk l.prog w K mg base CX0 2 f36 _ _ (spD K 1 (iJ C_Circuit)):=yT (C:=C_Circuit) F36 Cc35 Cc34 z_len z_list z_range z_reversed
  have Cc36:aM l.prog w K mg base "_law_faults" [] 2 1 (iJ C_Circuit):=⟨⟨f36,_,_,[],[],G36,mg_of X G a36,k36,b36,.nil,fun _=>eZ⟩⟩
  have G37:FnOk l.prog w K mg base CX0 1 f37 _ _ (spD K 1 (iI C_Circuit)):=yS (C:=C_Circuit) F37 z_range
  have Cc37:aM l.prog w K mg base "_law_givens" [] 1 1 (iI C_Circuit):=⟨⟨f37,_,_,[],[],G37,mg_of X G a37,k37,b37,.nil,fun _=>eZ⟩⟩
  have G38:FnOk l.prog w K mg base CX0 2 f38 _ _ (spD K 2 (iK C_Circuit)):=yU (C:=C_Circuit) F38 Cc22 Cc37 Cc23 z_len z_range
  have Cc38:aM l.prog w K mg base "_law_chosen" [] 2 2 (iK C_Circuit):=⟨⟨f38,_,_,[],[],G38,mg_of X G a38,k38,b38,.nil,fun _=>eZ⟩⟩
  have G39:FnOk l.prog w K mg base CX0 1 f39 _ _ (spD K 4 (gZ C_Circuit)):=wS (C:=C_Circuit) F39 z_int z_len z_range
  have Cc39:aM l.prog w K mg base "_law_grouped" [] 1 4 (gZ C_Circuit):=⟨⟨f39,_,_,[],[],G39,mg_of X G a39,k39,b39,.nil,fun _=>eZ⟩⟩
  exact Z43 (C:=C_Circuit) F40 Cc38 Cc28 Cc36 Cc39 Cc32 Cc33 Cc17 Cc21 Cc18 mk_Circuit z_list
end G
open PySem PySem.W PyProof.Rows
set_option maxRecDepth 100000 in
set_option maxHeartbeats 0 in
theorem PySem.Challenge.cw_stuckwire_k24_whole_hard_ones_tell_all_holds : PySem.Challenge.rw_stuckwire_k24_whole_hard_ones_tell_all.Holds := by
  w_on; o_law; k_head; (case hw => w_witness2)
  k_fill
  refine PD.walkD (l := PySem.Challenge.rw_stuckwire_k24_whole_hard_ones_tell_all) (n := 63) (k := 8) (x := "_law_script") rfl (by decide) rfl ⟨rfl, by decide, by decide⟩ (fun w h Y => PySem.W.kIn_of Y) ?F
  case F =>
    intro w mg fa h KX GX hmg
    refine' G.head_mk KX GX hmg ?_ ?_ ?_ ?_ ?_ ?_ ?_ ?_ ?_ ?_ ?_ ?_ ?_ ?_ ?_ ?_ ?_ ?_ ?_ ?_ ?_ ?_ ?_ ?_ ?_ ?_ ?_ ?_ ?_ ?_ ?_ ?_ ?_ ?_ ?_ ?_ ?_ ?_ ?_ ?_ ?_ ?_ ?_ ?_ ?_ ?_ ?_ ?_ ?_ ?_ ?_ ?_ ?_ ?_ ?_ ?_ ?_ ?_ ?_ ?_ ?_ ?_ ?_ ?_ ?_ ?_ ?_ ?_ ?_ ?_ ?_ ?_ ?_ ?_ ?_ ?_ ?_ ?_ ?_ ?_ ?_ ?_ ?_ ?_ ?_ ?_ ?_ ?_ ?_ ?_ ?_ ?_ ?_ ?_ ?_ ?_ ?_ ?_ ?_ ?_ ?_ ?_ ?_ ?_ ?_ ?_ ?_ ?_ ?_ ?_ ?_ ?_ ?_ ?_ ?_ ?_ ?_ ?_ ?_ ?_ ?_ ?_ ?_ ?_ ?_ ?_ ?_ ?_ ?_ ?_ ?_ ?_ ?_ ?_ ?_ ?_ ?_ ?_ ?_ ?_ ?_ ?_ ?_ ?_ ?_ ?_ ?_ ?_ ?_ ?_ ?_ ?_ ?_ ?_ ?_ ?_ ?_ ?_ ?_ ?_ ?_ ?_ ?_ ?_ ?_ ?_ ?_ ?_ ?_ ?_ ?_ ?_ ?_ ?_ ?_ ?_ ?_ ?_ ?_ ?_ ?_ ?_ ?_ ?_ ?_ ?_ ?_ ?_ ?_
    any_goals k_is
