import PyProof.Rows.All
import Wide.All
import OpenK.AllK
import Wide.FinOn
import Lean
import PyProof.EqAt
import PyProof.EqKinds
import PyProof.TupleCall
import KE.KRevIter
import PyProof.ListRange
import PyProof.ZipIter
import PyProof.Rows.ZipGen
import KE.KDictSum
import KE.KRevSl
import PyProof.DictWalks
import PyProof.DictIter
import KE.KDictLaws
import PyProof.StrReplace2
import PyProof.CallStr
import KE.KNestM
import KE.KLam
import PySem.Challenge.RW_stuckwire_k41_thinned_rows
set_option maxHeartbeats 0
open PySem.W (Frag fnOf keepIn codeIn nsIn mg_of)
set_option Elab.async false
set_option linter.all false
set_option maxRecDepth 100000
set_option bootstrap.genMatcherCode false
set_option compiler.extract_closed false
set_option genSizeOfSpec false
theorem PySem.W.Fast.te12162519456246851494 : True := trivial
namespace L2
open PySem PySem.Spec PyProof.Rows
noncomputable abbrev Key:=Sum Int Str
noncomputable def pQ:Key->Value->Bool
  | .inl k,v=>Value.isInt k v
  | .inr x,v=>Value.isStrOf x v
noncomputable def Z49 (w:World):Key->Int
  | .inl k=>hashInt k
  | .inr x=>hashStr w x
theorem cO:∀ {k:Key}{v:Value},pQ k v=true->(∃ i t,k=Sum.inl i /\ v=Value.int i t) \/ (∃ x t,k=Sum.inr x /\ v=Value.str x t)
  | .inl i,v,h=>by
    obtain⟨t,e⟩:=Value.isInt_shape (k:=i) (v:=v) h
    exact .inl ⟨i,t,rfl,e⟩
  | .inr x,v,h=>by
    obtain⟨t,e⟩:=Value.isStrOf_shape (x:=x) (v:=v) h
    exact .inr ⟨x,t,rfl,e⟩
theorem O6 (i:Int) (t:Tok):pQ (.inl i) (.int i t)=true:=by simp [pQ,Value.isInt]
theorem O5 (x:Str) (t:Tok):pQ (.inr x) (.str x t)=true:=by simp [pQ,Value.isStrOf]
theorem Z2x (a b:Int):decide ((Sum.inl a:Key)=Sum.inl b)=(a == b):=by
  by_cases e:a=b
  . subst e;simp
  . have h:¬ (Sum.inl a:Key)=Sum.inl b:=fun q=>e (Sum.inl.inj q)
    rw [decide_eq_false h]
    exact (beq_eq_false_iff_ne.mpr e).symm
theorem Z2u (a b:Str):decide ((Sum.inr a:Key)=Sum.inr b)=decide (a=b):=by
  by_cases e:a=b
  . subst e;simp
  . have h:¬ (Sum.inr a:Key)=Sum.inr b:=fun q=>e (Sum.inr.inj q)
    rw [decide_eq_false h,decide_eq_false e]
theorem Z2w (a:Int) (b:Str):decide ((Sum.inl a:Key)=Sum.inr b)=false:=decide_eq_false (fun q=>nomatch q)
theorem Z2v (a:Str) (b:Int):decide ((Sum.inr a:Key)=Sum.inl b)=false:=decide_eq_false (fun q=>nomatch q)
noncomputable def cQ (prog:Program) (w:World):PySem.KeyKind prog w Key where
  is:=pQ
  hash:=Z49 w
  inj:=fun v a b ha hb=>by
    rcases cO ha with ⟨i,t,rfl,rfl⟩ | ⟨x,t,rfl,rfl⟩
    . rcases cO hb with ⟨j,u,rfl,e⟩ | ⟨y,u,rfl,e⟩
      . injection e with e1 _;rw [e1]
      . exact nomatch e
    . rcases cO hb with ⟨j,u,rfl,e⟩ | ⟨y,u,rfl,e⟩
      . exact nomatch e
      . injection e with e1 _;rw [e1]
  byValue := fun k v h => by
    rcases cO h with ⟨i,t,rfl,rfl⟩ | ⟨x,t,rfl,rfl⟩ <;> rfl
  pyHash:=fun hv h=>by
    rcases cO hv with ⟨i,t,rfl,rfl⟩ | ⟨x,t,rfl,rfl⟩
    . exact wpAny_pyHash_int h
    . exact wpAny_pyHash_str h
  eqBool:=fun hu hv h=>by
    rcases cO hu with ⟨i,t,rfl,rfl⟩ | ⟨x,t,rfl,rfl⟩
    . rcases cO hv with ⟨j,u,rfl,rfl⟩ | ⟨y,u,rfl,rfl⟩
      . rw [Z2x] at h;exact wpAny_eqBool_int h
      . rw [Z2w] at h;exact SeqAt.EqAt.int_str i t y u _ _ _ _ h
    . rcases cO hv with ⟨j,u,rfl,rfl⟩ | ⟨y,u,rfl,rfl⟩
      . rw [Z2v] at h;exact SeqAt.EqAt.str_int x t j u _ _ _ _ h
      . rw [Z2u] at h;exact wpAny_eqBool_str h
  «strs»:=fun k x t v h=>by
    rcases cO h with ⟨i,u,rfl,e⟩ | ⟨y,u,rfl,e⟩
    . exact nomatch e
    . injection e with e1 _
      subst e1
      cases v <;> rfl
theorem xJ (prog:Program) (w:World) (i:Int) (t:Tok):(cQ prog w).is (.inl i) (.int i t)=true:=O6 i t
theorem xI (prog:Program) (w:World) (x:Str) (t:Tok):(cQ prog w).is (.inr x) (.str x t)=true:=O5 x t
inductive V where
  | non | bl (b:Bool) | int (i:Int) | str (x:Str) | byt (b:Array UInt8) | flt (b:UInt64) | ref (a:Addr) | ty (n:String)
  deriving DecidableEq
noncomputable def RelV:V->Value->Prop
  | .non,u=>u=Value.none
  | .bl b,u=>u=Value.bool b
  | .int i,u=>∃ t,u=Value.int i t
  | .str x,u=>∃ t,u=Value.str x t
  | .byt b,u=>∃ t,u=Value.bytes b t
  | .flt b,u=>∃ t,u=Value.float b t
  | .ref a,u=>u=Value.ref a
  | .ty n,u=>u=Value.type n
noncomputable abbrev Vals:List V->List Value->Prop:=Paired RelV
theorem Vals.length {xs:List V}{us:List Value}(r:Vals xs us):xs.length=us.length:=Paired.length r
theorem Vals.get:∀ {xs:List V}{us:List Value}{i:Nat}{x:V},Vals xs us->xs[i]? = some x->∃ u,us[i]? = some u /\ RelV x u
  | _,_,_,_,.nil,e=>by simp at e
  | _,_,0,_,.cons r _,e=>by simp at e;subst e;exact⟨_,rfl,r⟩
  | _,_,i + 1,x,.cons _ t,e=>by
    obtain⟨u,h1,h2⟩:=Vals.get (i:=i) (x:=x) t (by simpa using e)
    exact⟨u,by simpa using h1,h2⟩
theorem Vals.set {x:V}{u:Value}(r:RelV x u):∀ {xs:List V}{us:List Value}(i:Nat),Vals xs us->Vals (xs.set i x) (us.set i u)
  | _,_,_,.nil=>.nil
  | _,_,0,.cons _ t=>.cons r t
  | _,_,i + 1,.cons q t=>.cons q (Vals.set r i t)
theorem Vals.append:∀ {xs ys:List V}{us ws:List Value},Vals xs us->Vals ys ws->Vals (xs ++ ys) (us ++ ws)
  | _,_,_,_,.nil,s=>s
  | _,_,_,_,.cons r t,s=>.cons r (Vals.append t s)
theorem Vals.take:∀ {xs:List V}{us:List Value}(n:Nat),Vals xs us->Vals (xs.take n) (us.take n)
  | _,_,0,_=>.nil
  | _,_,_ + 1,.nil=>.nil
  | _,_,n + 1,.cons r t=>.cons r (Vals.take n t)
theorem Vals.drop:∀ {xs:List V}{us:List Value}(n:Nat),Vals xs us->Vals (xs.drop n) (us.drop n)
  | _,_,0,r=>r
  | _,_,_ + 1,.nil=>.nil
  | _,_,n + 1,.cons _ t=>Vals.drop n t
noncomputable def RelO:Option V->Option Value->Prop
  | some v,some u=>RelV v u
  | none,none=>True
  | _,_=>False
noncomputable def KV {κ:Type}:List (κ × V)->List (κ × Value)->Prop:=Paired fun (p:κ × V) (q:κ × Value)=>p.1=q.1 /\ RelV p.2 q.2
noncomputable def kV:Key->V
  | .inl i=>.int i
  | .inr x=>.str x
inductive HO where
  /-- a list -/
  | lst (xs:List V)
  /-- a tuple (never changes) -/
  | tup (xs:List V)
  /-- a dict whose keys are ints and texts;one whose keys are tuples of ints and texts (the empty one is both) -/
  | dK (kvs:List (Key × V)) | dT (kvs:List (List Key × V))
  | dE (es:List (List Key × Addr × V)) (ep:Nat)
  | cod (q:Str)
  /-- a set of ints: its members,its size -/
  | set (S:Int->Bool) (n:Nat)
  /-- an instance of the class at C,its dict at dx,its attributes -/
  | ins (C dx:Addr) (fs:List (Str × V))
  /-- the dict of the instance at x -/
  | own (x:Addr)
  /-- the dict of an exception -/
  | xd (fs:List (Str × V))
  /-- a bound method,f of x -/
  | met (f x:Addr)
  /-- a range object lo,lo + 1,.. below hi -/
  | rng (lo hi:Int)
  /-- a thing that is known to the object (the script;a dict while a loop walks it): read,never written while it is so -/
  | frz (o:Obj) (u:HO)
  /-- a code object's table -/
  | tbl (ps:Array (Pos × Str))
  /-- any other thing,by what is true of its one object (a def of one's own: SetO a S n:=HO.ext fun h=>..) -/
  | ext (φ:Heap->Prop)
noncomputable abbrev Hp:=Addr->Option HO
noncomputable def upd (H:Hp) (a:Addr) (o:HO):Hp:=fun b=>if b=a then some o else H b
theorem aV {H:Hp}{a:Addr}{o:HO}:upd H a o a=some o:=by unfold upd;rw [if_pos rfl]
theorem aM {H:Hp}{a b:Addr}{o:HO}(h:b ≠ a):upd H a o b=H b:=by unfold upd;rw [if_neg h]
theorem Z3l {H:Hp}{a b:Addr}{o u:HO}(h:H a=some o) (h':H b=some u) (d:o ≠ u):a ≠ b:=by
  intro e;subst e;rw [h] at h';exact d (Option.some.inj h')
theorem aR {H:Hp}{a b:Addr}{o:HO}(h:H a=some o) (h':H b=none):a ≠ b:=by
  intro e;subst e;rw [h] at h';cases h'
section
variable (P:Program) (w:World)
noncomputable def ObjOk (H:Hp) (h:Heap) (a:Addr):HO->Prop
  | .lst xs=>xs.length <= sizeLine /\ ∃ (its:List Value) (n:Nat),Vals xs its /\ h.get? a=some { cls:=.type "list",data:=.seq its.toArray n }
  | .tup xs=>xs.length <= sizeLine /\ ∃ its:List Value,Vals xs its /\ IsTup h a its.toArray
  | .dK kvs=>kvs.length <= sizeLine /\ (a == sysModules)=false /\ ∃ vs,KV kvs vs /\ h.DictOf (cQ P w) a vs
  | .dT kvs=>kvs.length <= sizeLine /\ (a == sysModules)=false /\ ∃ xs:List (List Key × Addr × Value),
      Paired (fun (p:List Key × V) (q:List Key × Addr × Value)=>p.1=q.1 /\ H q.2.1=some (.tup (p.1.map kV)) /\ RelV p.2 q.2.2) kvs xs /\
      ∃ o es ep,h.get? a=some o /\ o.ExactDict /\ o.data=.dict es ep /\ es.toList=xs.map (entryOfKey (tupleKind (cQ P w))) /\ (xs.map (·.1)).Nodup
  | .dE es ep=>es.length <= sizeLine /\ (a == sysModules)=false /\ ∃ xs:List (List Key × Addr × Value),Paired (fun (p:List Key × Addr × V) (q:List Key × Addr × Value)=>p.1=q.1 /\ p.2.1=q.2.1 /\ RelV p.2.2 q.2.2) es xs /\
      ∃ o es',h.get? a=some o /\ o.ExactDict /\ o.data=.dict es' ep /\ es'.toList=xs.map (entryOfKey (tupleKind (cQ P w))) /\ (xs.map (·.1)).Nodup
  | .cod q=>h.CodeRec (.ref a) q
  | .set S n=>h.SetOf (intKind P w) a S n
  | .ins C dx fs=>H dx=some (.own a) /\ fs.length <= 1000 /\ dx ≠ a /\ h.get? a=some (PySem.W.instObj C dx) /\
      ∃ mA,h.Ns1 dx mA /\ (∀ f,RelO (fs.lookup f) (mA f)) /\ PySem.Within mA (fs.map (·.1))
  | .own _=>∃ o,h.get? a=some o
  | .xd fs=>∃ mA,h.Ns1 a mA /\ ∀ f,RelO (fs.lookup f) (mA f)
  | .rng lo hi=>∃ t u v,h.get? a=some { cls:=.type "range",data:=.fields #[.int lo t,.int hi u,.int 1 v] }
  | .frz o u=>h.get? a=some o /\ ObjOk H h a u
  | .tbl ps=>∃ pv:Array Value,h.get? a=some { cls:=.none,data:=.fields pv } /\ TriplesOk pv.toList /\ ∀ p,ps[0]? = some p->codeAmong p.1 pv.toList=none \/ ∃ c oc,codeAmong p.1 pv.toList=some (.ref c) /\ H c=some (.frz oc (.cod p.2))
  | .met f x=>h.get? a=some (PySem.W.methodObj (.ref f) (.ref x))
  | .ext φ=>φ h /\ (∃ o,h.get? a=some o) /\ ∀ h1 h2:Heap,φ h1->(∀ o,h1.get? a=some o->h2.get? a=some o)->φ h2
noncomputable def HOk (H:Hp) (h:Heap):Prop:=∀ a o,H a=some o->ObjOk P w H h a o
end
section
variable {P:Program}{w:World}{H H':Hp}{h h':Heap}{a:Addr}{o:HO}
theorem ObjOk.lt (x:ObjOk P w H h a o):a < h.objs.size:=by
  cases o with
  | lst xs=>obtain⟨_,_,_,_,e⟩:=x;exact Heap.lt_size e
  | tup xs=>obtain⟨_,_,_,p⟩:=x;exact p.lt
  | dK kvs=>obtain⟨_,_,_,_,o,_,_,e,_⟩:=x;exact Heap.lt_size e
  | dT kvs=>obtain⟨_,_,_,_,o,_,_,e,_⟩:=x;exact Heap.lt_size e
  | dE es ep=>obtain⟨_,_,_,_,o,_,e,_⟩:=x;exact Heap.lt_size e
  | cod q=>obtain⟨c,o,_,_,z,e,_⟩:=x;cases z;exact Heap.lt_size e
  | set S n=>obtain⟨o,_,_,_,e,_⟩:=x;exact Heap.lt_size e
  | ins C dx fs=>obtain⟨_,_,_,e,_⟩:=x;exact Heap.lt_size e
  | own y=>obtain⟨_,e⟩:=x;exact Heap.lt_size e
  | xd fs=>obtain⟨_,⟨_,_,_,e,_⟩,_⟩:=x;exact Heap.lt_size e
  | rng lo hi=>obtain⟨_,_,_,e⟩:=x;exact Heap.lt_size e
  | frz ob u=>obtain⟨e,_⟩:=x;exact Heap.lt_size e
  | tbl ps=>obtain⟨_,e,_⟩:=x;exact Heap.lt_size e
  | met f y=>exact Heap.lt_size (show h.get? a=some _ from x)
  | ext φ=>obtain⟨_,⟨_,e⟩,_⟩:=x;exact Heap.lt_size e
theorem Paired.mapP {α β:Type}{F G:α->β->Prop}:∀ {l₁:List α}{l₂:List β},Paired F l₁ l₂->(∀ a b,F a b->G a b)->Paired G l₁ l₂
  | _,_,.nil,_=>.nil
  | _,_,.cons r t,f=>.cons (f _ _ r) (Paired.mapP t f)
theorem ObjOk.stay (x:ObjOk P w H h a o) (k:∀ b u,(b=a \/ H b=some (.own a))->h.get? b=some u->h'.get? b=some u)
    (ho:∀ b,H b=some (.own a)->H' b=some (.own a)) (ht:∀ b xs,H b=some (.tup xs)->H' b=some (.tup xs))
    (hcd:∀ b o q,H b=some (.frz o (.cod q))->H' b=some (.frz o (.cod q)):=by intro b o q r;first | exact r | (rw [aM (aR r (by assumption))];exact r) | (rw [aM (fun z=>by subst z;simp_all [Mut])];exact r) | (rw [aM (fun z=>by rw [z] at r;simp_all)];exact r)):ObjOk P w H' h' a o:=by
  induction o with
  | lst xs=>obtain⟨z,its,n,r,e⟩:=x;exact⟨z,its,n,r,k _ _ (.inl rfl) e⟩
  | tup xs=>obtain⟨z,its,r,ob,e,c⟩:=x;exact⟨z,its,r,ob,k _ _ (.inl rfl) e,c⟩
  | dK kvs=>obtain⟨z,y,vs,r,ob,es,ep,e,c⟩:=x;exact⟨z,y,vs,r,ob,es,ep,k _ _ (.inl rfl) e,c⟩
  | dT kvs =>
    obtain⟨z,y,xs,r,ob,es,ep,e,c⟩:=x
    exact⟨z,y,xs,Paired.mapP r fun p q z=>⟨z.1,ht _ _ z.2.1,z.2.2⟩,ob,es,ep,k _ _ (.inl rfl) e,c⟩
  | dE es ep=>obtain⟨z,y,xs,r,ob,es,e,c⟩:=x;exact⟨z,y,xs,r,ob,es,k _ _ (.inl rfl) e,c⟩
  | cod q=>obtain⟨c,o,vs,t,z,e,r⟩:=x;cases z;exact⟨_,o,vs,t,rfl,k _ _ (.inl rfl) e,r⟩
  | set S n=>obtain⟨ob,es,ep,t,e,c⟩:=x;exact⟨ob,es,ep,t,k _ _ (.inl rfl) e,c⟩
  | ins C dx fs =>
    obtain⟨d,z,ne,e,mA,⟨od,es,ep,e2,c⟩,r⟩:=x
    exact⟨ho _ d,z,ne,k _ _ (.inl rfl) e,mA,⟨od,es,ep,k _ _ (.inr d) e2,c⟩,r⟩
  | own y=>obtain⟨ob,e⟩:=x;exact⟨ob,k _ _ (.inl rfl) e⟩
  | xd fs=>obtain⟨mA,⟨od,es,ep,e,c⟩,r⟩:=x;exact⟨mA,⟨od,es,ep,k _ _ (.inl rfl) e,c⟩,r⟩
  | rng lo hi=>obtain⟨t,u,v,e⟩:=x;exact⟨t,u,v,k _ _ (.inl rfl) e⟩
  | frz ob u ih=>obtain⟨e,q⟩:=x;exact⟨k _ _ (.inl rfl) e,ih q⟩
  | tbl ps=>obtain⟨pv,e,t,c⟩:=x;exact⟨pv,k _ _ (.inl rfl) e,t,fun p hp=>(c p hp).imp id fun⟨c,oc,e1,e2⟩=>⟨c,oc,e1,hcd _ _ _ e2⟩⟩
  | met f y =>
    have e:h.get? a=some (PySem.W.methodObj (.ref f) (.ref y)):=x
    show h'.get? a=some (PySem.W.methodObj (.ref f) (.ref y))
    exact k a _ (.inl rfl) e
  | ext φ=>obtain⟨p,⟨o,e⟩,st⟩:=x;exact⟨st _ _ p fun o q=>k _ _ (.inl rfl) q,⟨o,k _ _ (.inl rfl) e⟩,st⟩
theorem HOk.lt (x:HOk P w H h) (e:H a=some o):a < h.objs.size:=(x a o e).lt
theorem HOk.fresh (x:HOk P w H h) (e:h.objs.size <= a):H a=none:=by
  cases q:H a with
  | none=>rfl
  | some u=>exact absurd (Nat.lt_of_lt_of_le (x.lt q) e) (Nat.lt_irrefl _)
theorem HOk.kept (x:HOk P w H h) (k:∀ b u,h.get? b=some u->h'.get? b=some u):HOk P w H h':=fun a o e =>
  (x a o e).stay (fun b u _ q=>k b u q) (fun _ q=>q) fun _ _ q=>q
theorem HOk.laid (x:HOk P w H h) (k:∀ b u,h.get? b=some u->h'.get? b=some u) (hp:h.objs.size <= a) (new:ObjOk P w (upd H a o) h' a o):HOk P w (upd H a o) h':=fun b u e=>by
  have hn:=x.fresh hp
  by_cases hb:b=a
  . subst hb;rw [aV] at e;cases e;exact new
  . rw [aM hb] at e
    exact (x b u e).stay (fun c v _ q=>k c v q) (fun c q=>by rw [aM (aR q hn)];exact q) fun c xs q=>by rw [aM (aR q hn)];exact q
end
noncomputable def Rd (H:Hp) (a:Addr) (u:HO):Prop:=H a=some u \/ ∃ o,H a=some (.frz o u)
theorem Rd.of {H:Hp}{a:Addr}{u:HO}(h:H a=some u):Rd H a u:=.inl h
theorem Rd.ok {P:Program}{w:World}{H:Hp}{h:Heap}{a:Addr}{u:HO}(r:Rd H a u) (x:HOk P w H h):ObjOk P w H h a u:=by
  rcases r with r | ⟨o,r⟩
  . exact x a u r
  . obtain⟨_,q⟩:=x a _ r
    exact q
noncomputable def Mut:Option HO->Prop
  | some (.lst _)=>True
  | some (.dK _)=>True
  | some (.dT _)=>True
  | some (.dE _ _)=>True
  | some (.set _ _)=>True
  | some (.ins _ _ _)=>True
  | some (.ext _)=>True
  | _=>False
section
variable {P:Program}{w:World}{H:Hp}{h h':Heap}{x e:Addr}{o':HO}
theorem HOk.write (ok:HOk P w H h) (mu:Mut (H x)) (he:e=x \/ H e=some (.own x)) (k:∀ b u,b ≠ e->h.get? b=some u->h'.get? b=some u) (heo:∃ u,h'.get? e=some u)
    (new:ObjOk P w (upd H x o') h' x o'):HOk P w (upd H x o') h':=fun b u q=>by
  have nown:∀ c y,H c=some (.own y)->c ≠ x:=fun c y r z=>by subst z;rw [r] at mu;exact mu
  have ntup:∀ c xs,H c=some (.tup xs)->c ≠ x:=fun c xs r z=>by subst z;rw [r] at mu;exact mu
  by_cases hb:b=x
  . subst hb;rw [aV] at q;cases q;exact new
  . rw [aM hb] at q
    by_cases hbe:b=e
    . have q':H b=some (.own x):=by
        rcases he with z | z
        . exact absurd (hbe.trans z) hb
        . rw [hbe];exact z
      rw [q] at q';cases q'
      obtain⟨v,hv⟩:=heo
      exact⟨v,by rw [hbe];exact hv⟩
    . refine (ok b u q).stay (fun c v hc r=>k c v ?_ r) (fun c r=>by rw [aM (nown c b r)];exact r) fun c xs r=>by rw [aM (ntup c xs r)];exact r
      rcases hc with rfl | hc
      . exact hbe
      . rintro rfl
        rcases he with z | z
        . exact nown c b hc z
        . rw [hc] at z;cases z;exact hb rfl
end
structure Un (fs ex:List Addr) (H H':Hp) (h h':Heap):Prop where
  keep:∀ b o,h.get? b=some o->H b=none->b ∉ fs->b ∉ ex->h'.get? b=some o
  slot:∀ b o,h.get? b=some o->H b=none->b ∈ fs->b ∉ ex->∃ sl,h'.get? b=some { o with slots:=sl }
  free:∀ b o,h.get? b=some o->H b=none->b ∉ ex->H' b=none
  there:∀ b o,h.get? b=some o->b ∉ ex->∃ o',h'.get? b=some o'
  tups:∀ b xs,H b=some (.tup xs)->H' b=some (.tup xs)
  frzs:∀ b o u,H b=some (.frz o u)->H' b=some (.frz o u)
  tbls:∀ b ps,H b=some (.tbl ps)->∃ more,H' b=some (.tbl (ps ++ more))
section
variable {fs fs' ex ex':List Addr}{H H1 H2:Hp}{h h1 h2 h':Heap}{a x e:Addr}{o:HO}
theorem Un.any (u:Un fs ex H H1 h h1) {b:Addr}{ob:Obj}(q:h.get? b=some ob) (n:H b=none) (hx:b ∉ ex):∃ sl,h1.get? b=some { ob with slots:=sl }:=by
  by_cases hb:b ∈ fs
  . exact u.slot b ob q n hb hx
  . exact⟨ob.slots,u.keep b ob q n hb hx⟩
theorem Un.trans (a:Un fs ex H H1 h h1) (b:Un fs ex H1 H2 h1 h2):Un fs ex H H2 h h2 where
  keep:=fun c ob q n hc hx=>b.keep c ob (a.keep c ob q n hc hx) (a.free c ob q n hx) hc hx
  slot:=fun c ob q n hc hx=>by
    obtain⟨sl,e1⟩:=a.slot c ob q n hc hx
    obtain⟨sl',e2⟩:=b.slot c _ e1 (a.free c ob q n hx) hc hx
    exact⟨sl',e2⟩
  free:=fun c ob q n hx=>by
    obtain⟨o',e1⟩:=a.there c ob q hx
    exact b.free c o' e1 (a.free c ob q n hx) hx
  there:=fun c ob q hx=>by
    obtain⟨o',e1⟩:=a.there c ob q hx
    exact b.there c o' e1 hx
  tups:=fun c xs q=>b.tups c xs (a.tups c xs q)
  frzs:=fun c ob xs q=>b.frzs c ob xs (a.frzs c ob xs q)
  tbls:=fun c ps q=>by
    obtain⟨m1,e1⟩:=a.tbls c ps q
    obtain⟨m2,e2⟩:=b.tbls c _ e1
    exact⟨m1 ++ m2,by rw [e2,Array.append_assoc]⟩
theorem Un.kept (k:∀ b u,h.get? b=some u->h'.get? b=some u):Un fs ex H H h h' :=
  ⟨fun b ob q _ _ _=>k b ob q,fun b ob q _ _ _=>⟨ob.slots,k b ob q⟩,fun _ _ _ n _=>n,fun b ob q _=>⟨ob,k b ob q⟩,fun _ _ q=>q,fun _ _ _ q=>q,fun _ ps q=>⟨#[],by rw [q];simp⟩⟩
theorem Un.refl:Un fs ex H H h h:=Un.kept fun _ _ q=>q
theorem Un.laid (k:∀ b u,h.get? b=some u->h'.get? b=some u) (hp:h.objs.size <= a) (hn:H a=none):Un fs ex H (upd H a o) h h' where
  keep:=fun b u q _ _ _=>k b u q
  slot:=fun b u q _ _ _=>⟨u.slots,k b u q⟩
  free:=fun b u q n _=>by rw [aM (Nat.ne_of_lt (Nat.lt_of_lt_of_le (Heap.lt_size q) hp))];exact n
  there:=fun b u q _=>⟨u,k b u q⟩
  tups:=fun b xs q=>by rw [aM (aR q hn)];exact q
  frzs:=fun b u xs q=>by rw [aM (aR q hn)];exact q
  tbls:=fun b ps q=>⟨#[],by rw [aM (aR q hn),q];simp⟩
theorem Un.write (mu:Mut (H x)) (he:e=x \/ H e=some (.own x)) (k:∀ b u,b ≠ e->h.get? b=some u->h'.get? b=some u) (heo:∃ u,h'.get? e=some u):Un fs ex H (upd H x o) h h':=by
  have hx:∀ b,H b=none->b ≠ x:=fun b n z=>by subst z;rw [n] at mu;exact mu
  have hb:∀ b,H b=none->b ≠ e:=fun b n z=>by
    subst z
    rcases he with r | r
    . exact hx b n r
    . rw [n] at r;cases r
  have hm:∀ b u,H b=some u -> ¬ Mut (some u)->b ≠ x:=fun b u q nm z=>by subst z;rw [q] at mu;exact nm mu
  refine⟨fun b u q n _ _=>k b u (hb b n) q,fun b u q n _ _=>⟨u.slots,k b u (hb b n) q⟩,fun b u q n _=>by rw [aM (hx b n)];exact n,fun b u q _=>?_,
    fun b xs q=>by rw [aM (hm b _ q fun z=>z)];exact q,fun b u xs q=>by rw [aM (hm b _ q fun z=>z)];exact q,fun b ps q=>⟨#[],by rw [aM (hm b _ q fun z=>z),q];simp⟩⟩
  by_cases hbe:b=e
  . subst hbe;exact heo
  . exact⟨u,k b u hbe q⟩
theorem Un.mono (u:Un fs ex H H1 h h1) (hs:∀ b ∈ fs,b ∈ fs') (hx:∀ b ∈ ex,b ∈ ex'):Un fs' ex' H H1 h h1 :=
  ⟨fun b ob q n hb he=>u.keep b ob q n (fun z=>hb (hs b z)) fun z=>he (hx b z),fun _ _ q n _ he=>u.any q n fun z=>he (hx _ z),fun b ob q n he=>u.free b ob q n fun z=>he (hx b z),fun b ob q he=>u.there b ob q fun z=>he (hx b z),u.tups,u.frzs,u.tbls⟩
end
noncomputable def trk (h:Heap) (H:Hp):List Addr:=(List.range h.objs.size).filter fun a=>(H a).isSome
noncomputable def sW (h:Heap) (H:Hp):Heap:=PySem.W.hideAll h (trk h H)
theorem P3 (h:Heap) (H:Hp):(sW h H).objs.size=h.objs.size:=PySem.W.hideAll_size _ _
theorem Z00 {h:Heap}{H:Hp}{b:Addr}{o:Obj}(e:h.get? b=some o) (n:H b=none):(sW h H).get? b=some o :=
  PySem.W.hideAll_get _ e fun hm=>by
    have q:(H b).isSome=true:=(List.mem_filter.mp hm).2
    rw [n] at q;simp at q
theorem Z14 {h:Heap}{H:Hp}{b:Addr}{o:Obj}(e:(sW h H).get? b=some o):h.get? b=some o /\ H b=none:=by
  have e':h.get? b=some o:=PySem.W.of_hideAll (trk h H) e
  refine⟨e',?_⟩
  cases q:H b with
  | none=>rfl
  | some x =>
    have hm:b ∈ trk h H:=List.mem_filter.mpr ⟨List.mem_range.mpr (Heap.lt_size e'),by simp [q]⟩
    have z:(sW h H).get? b=none:=PySem.W.hideAll_none (trk h H) hm
    rw [z] at e;cases e
noncomputable def Z1u (g h:Heap) (L:Addr):List (Addr × Obj):=(List.range h.objs.size).filterMap fun a=>if a=L \/ (g.get? a).isSome=true then none else (h.get? a).map fun o=>(a,o)
noncomputable def rest (g h:Heap) (L d:Addr):List (Addr × Obj):=(Z1u g h L).filter fun p=>decide (p.1 ≠ d)
structure Mod (K:Frag) (mg:Str->Option Value) (base:Heap):Prop where
  kin:K.In base
  glob:base.Ns mainGlobals mg
  blt:∃ mb,base.Ns builtinsNs mb /\ ∀ x:Str,x ≠ "__name__" -> mb x=bootBuiltins x
  nolimit:base.NoLimit
structure Cx where
  prog:Program
  w:World
  K:Frag
  mg:Str->Option Value
  base:Heap
  A:Around
  N:List Str
  s₀:Shared
  H₀:Hp
  env:Env
  outer:List Env
  stack:List Env
  ex:List Addr
  fn:Str->Bool
  calm:Bool
  pn:List (Addr × Obj)
  xe:Value->Shared->Prop
noncomputable def frs (l:List Env):List Addr:=l.filterMap (·.frame)
noncomputable abbrev Cx.fs (X:Cx):List Addr:=frs X.outer
noncomputable def Vis (sc:Scope) (x:Str):Prop:=sc.names.lookup x=some .local \/ sc.names.lookup x=some .cell \/ sc.names.lookup x=some .free
noncomputable def Loc (sc:Scope) (x:Str):Prop:=sc.names.lookup x=some .local \/ sc.names.lookup x=some .cell
noncomputable def Z4g (env:Env) (h:Heap) (m:Str->Option Value) (x:Str) (u:Value):Prop :=
  (env.kindOf x=some .local /\ m x=some u) \/ ((env.kindOf x=some .cell \/ env.kindOf x=some .free) /\ ∃ c,env.cells.lookup x=some c /\ h.IsCell c (some u))
structure Cx.Ok (X:Cx):Prop where
  mod:Mod X.K X.mg X.base
  kind:X.env.scope.kind=.function
  glob:X.env.globals=mainGlobals
  blt:X.env.builtins=builtinsNs
  above:X.s₀.heap.objs.size <= X.env.locals
  inj:∀ x y c,X.env.cells.lookup x=some c->X.env.cells.lookup y=some c->x=y
  has:∀ x,(X.env.kindOf x=some .cell \/ X.env.kindOf x=some .free)->∃ c,X.env.cells.lookup x=some c
  cab:∀ x c,X.fn x=true->X.env.cells.lookup x=some c->X.s₀.heap.objs.size <= c
  hd:X.calm=true->X.A.handled=none
  frames:X.A.frames=some X.stack
  stk:X.stack=X.outer \/ (X.stack=X.env :: X.outer /\ X.env.frame=some X.env.locals)
  exf:∀ b ∈ X.ex,b ≠ X.env.locals /\ ∀ x c,X.env.cells.lookup x=some c->c ≠ b
  bs:∀ b o,X.base.get? b=some o->X.s₀.heap.get? b=some o /\ X.H₀ b=none
  bsz:X.base.objs.size <= X.s₀.heap.objs.size
  noex:∀ b o,X.base.get? b=some o->b ∉ X.ex
  exfs:∀ b ∈ X.ex,b ∉ X.fs
  funs:X.s₀.heap.FunFrames X.base X.outer
  frf:∀ b ∈ X.fs,X.H₀ b=none
structure Inv (X:Cx) (pins:List (Addr × Obj)) (σ:List (Option V)) (H:Hp) (s:Shared):Prop where
  ok:X.Ok
  os:s.os=X.s₀.os
  bare:AllBare s.gens
  base:Un X.fs X.ex X.H₀ H X.s₀.heap s.heap
  loc:∃ m,s.heap.Ns X.env.locals m /\ ∀ (i:Nat) (x:Str) (v:V),X.N[i]? = some x->σ[i]? = some (some v)->Vis X.env.scope x->∃ u,RelV v u /\ Z4g X.env s.heap m x u
  cell:∀ x c,X.env.cells.lookup x=some c->∃ v,s.heap.IsCell c v
  free:H X.env.locals=none
  freeC:∀ x c,X.env.cells.lookup x=some c->H c=none
  pin:∀ p ∈ X.pn ++ pins,s.heap.get? p.1=some p.2 /\ H p.1=none /\ p.1 ≠ X.env.locals /\ p.1 ∉ X.fs /\ ∀ v,p.2.data ≠ .cell v
  hok:HOk X.prog X.w H s.heap
  len:σ.length=X.N.length
section
variable {X:Cx}{pins:List (Addr × Obj)}{σ:List (Option V)}{H H':Hp}{s:Shared}{h':Heap}
theorem Cx.Ok.nofr (ok:X.Ok) {b:Addr}{o:Obj}(e:X.base.get? b=some o):b ∉ X.fs:=fun hb=>by
  have:=(ok.funs.mem hb).1
  rw [e] at this;cases this
theorem Inv.bs (I:Inv X pins σ H s):∀ b o,X.base.get? b=some o->s.heap.get? b=some o /\ H b=none:=fun b o e =>
  ⟨I.base.keep b o (I.ok.bs b o e).1 (I.ok.bs b o e).2 (I.ok.nofr e) (I.ok.noex b o e),I.base.free b o (I.ok.bs b o e).1 (I.ok.bs b o e).2 (I.ok.noex b o e)⟩
theorem Inv.bk (I:Inv X pins σ H s):∀ b o,X.base.get? b=some o->s.heap.get? b=some o:=fun b o e=>(I.bs b o e).1
theorem Inv.mod (I:Inv X pins σ H s):Mod X.K X.mg X.base:=I.ok.mod
theorem Inv.kIn (I:Inv X pins σ H s):X.K.In s.heap:=I.ok.mod.kin.keeps I.bk
theorem Inv.nolimit (I:Inv X pins σ H s):s.heap.NoLimit:=I.ok.mod.nolimit.keeps I.bk
theorem Inv.fr (I:Inv X pins σ H s):∃ m,Fr X.base X.env.locals s.heap m :=
  let ⟨m,hn,_⟩:=I.loc
  ⟨m,hn,I.bk,Nat.le_trans I.ok.bsz I.ok.above⟩
theorem Inv.lt (I:Inv X pins σ H s):X.env.locals < s.heap.objs.size:=let ⟨_,hn,_⟩:=I.loc;hn.lt
theorem Inv.sz (I:Inv X pins σ H s):X.s₀.heap.objs.size <= s.heap.objs.size:=Nat.le_trans I.ok.above (Nat.le_of_lt I.lt)
theorem Inv.nofs (I:Inv X pins σ H s) {a:Addr}(h:s.heap.objs.size <= a):a ∉ X.fs:=fun hb=>by
  obtain⟨_,o,ho,_⟩:=I.ok.funs.mem hb
  exact absurd (Nat.lt_of_lt_of_le (Heap.lt_size ho) (Nat.le_trans I.sz h)) (Nat.lt_irrefl _)
theorem Inv.cne (I:Inv X pins σ H s):∀ x c,X.env.cells.lookup x=some c->c ≠ X.env.locals:=fun x c e z=>by
  obtain⟨v,o,ho,hd⟩:=I.cell x c e
  obtain⟨m,⟨o',es,ep,ho',hd',_⟩,_⟩:=I.loc
  rw [z,ho'] at ho;cases ho;rw [hd'] at hd;cases hd
theorem Inv.funs (I:Inv X pins σ H s):s.heap.FunFrames X.base X.outer:=by
  have all:∀ (l:List Env),(∀ b ∈ frs l,b ∈ X.fs)->X.s₀.heap.FunFrames X.base l->s.heap.FunFrames X.base l:=by
    intro l
    induction l with
    | nil=>intro _ _;trivial
    | cons env r ih =>
      intro hs hl
      obtain⟨hk,⟨L,o,hf,hn,ho,hd⟩,hr⟩:=hl
      have hL:L ∈ X.fs:=hs L (by unfold frs;rw [List.filterMap_cons,hf];exact List.mem_cons_self)
      obtain⟨sl,e⟩:=I.base.slot L o ho (I.ok.frf L hL) hL fun z=>I.ok.exfs L z hL
      exact⟨hk,⟨L,_,hf,hn,e,hd⟩,ih (fun b hb=>hs b (by unfold frs;rw [List.filterMap_cons,hf];exact List.mem_cons_of_mem _ hb)) hr⟩
  exact all X.outer (fun _ hb=>hb) I.ok.funs
theorem Inv.stack (I:Inv X pins σ H s):s.heap.FunFrames X.base X.stack:=by
  rcases I.ok.stk with e | ⟨e,hf⟩
  . rw [e];exact I.funs
  . rw [e]
    obtain⟨m,hn,_⟩:=I.loc
    refine .cons (by rw [I.ok.kind];decide) hf hn ?_ I.funs
    exact Heap.get?_none_of_le (Nat.le_trans I.ok.bsz I.ok.above)
theorem Inv.stkSub (I:Inv X pins σ H s):∀ b ∈ frs X.stack,b ∈ X.env.locals :: X.fs:=fun b hb=>by
  rcases I.ok.stk with e | ⟨e,hf⟩
  . rw [e] at hb;exact List.mem_cons_of_mem _ hb
  . rw [e] at hb
    unfold frs at hb
    rw [List.filterMap_cons,hf] at hb
    exact hb
theorem Inv.stkFree (I:Inv X pins σ H s):∀ b ∈ frs X.stack,H b=none:=fun b hb=>by
  rcases List.mem_cons.mp (I.stkSub b hb) with e | hb
  . rw [e];exact I.free
  . obtain⟨_,o,ho,_⟩:=I.ok.funs.mem hb
    exact I.base.free b o ho (I.ok.frf b hb) fun z=>I.ok.exfs b z hb
theorem Inv.step {g':Array GenState}{t':Nat}{d':Drawn}{ch:List Addr}(I:Inv X pins σ H s)
    (hch:∀ b ∈ ch,(b ∈ X.ex \/ X.s₀.heap.objs.size <= b) /\ b ≠ X.env.locals /\ (∀ x c,X.env.cells.lookup x=some c->c ≠ b) /\ ∀ p ∈ X.pn ++ pins,p.1 ≠ b)
    (keep:∀ b o,b ≠ X.env.locals->b ∉ X.fs->b ∉ ch->s.heap.get? b=some o->H b=none->h'.get? b=some o)
    (slot:∀ b o,b ≠ X.env.locals->b ∈ X.fs->b ∉ ch->s.heap.get? b=some o->H b=none->∃ sl,h'.get? b=some { o with slots:=sl }) (free:∀ b o,b ∉ ch->s.heap.get? b=some o->H b=none->H' b=none)
    (there:∀ b o,b ∉ ch->s.heap.get? b=some o->∃ o',h'.get? b=some o')
    (tups:∀ b xs,H b=some (.tup xs)->H' b=some (.tup xs)) (frzs:∀ b o u,H b=some (.frz o u)->H' b=some (.frz o u)) (tbls:∀ b ps,H b=some (.tbl ps)->∃ more,H' b=some (.tbl (ps ++ more)))
    (ns:∀ m,s.heap.Ns X.env.locals m->h'.Ns X.env.locals m) (hok:HOk X.prog X.w H' h') (hg:AllBare g') :
    Inv X pins σ H' { s with heap:=h',gens:=g',drawn:=d',toks:=t' }:=by
  have neL:∀ b o,X.s₀.heap.get? b=some o->b ≠ X.env.locals:=fun b o e=>Nat.ne_of_lt (Nat.lt_of_lt_of_le (Heap.lt_size e) I.ok.above)
  have neC:∀ b o,X.s₀.heap.get? b=some o->b ∉ X.ex->b ∉ ch:=fun b o e hx hb=>by
    rcases (hch b hb).1 with z | z
    . exact hx z
    . exact absurd (Nat.lt_of_lt_of_le (Heap.lt_size e) z) (Nat.lt_irrefl _)
  have cellK:∀ x c,X.env.cells.lookup x=some c->∀ v,s.heap.IsCell c v->h'.IsCell c v:=fun x c e v ⟨o,ho,hd⟩=>by
    have nch:c ∉ ch:=fun z=>(hch c z).2.2.1 x c e rfl
    by_cases hc:c ∈ X.fs
    . obtain⟨sl,q⟩:=slot c o (I.cne x c e) hc nch ho (I.freeC x c e)
      exact⟨_,q,hd⟩
    . exact⟨o,keep c o (I.cne x c e) hc nch ho (I.freeC x c e),hd⟩
  refine⟨I.ok,I.os,hg,⟨fun b o e n hb hx=>?_,fun b o e n hb hx=>?_,fun b o e n hx=>?_,fun b o e hx=>?_,fun b xs e=>tups b xs (I.base.tups b xs e),fun b o xs e=>frzs b o xs (I.base.frzs b o xs e),fun b ps e=>?_⟩,?_,fun x c e=>?_,?_,fun x c e=>?_,fun p hp=>?_,hok,I.len⟩
  . exact keep b o (neL b o e) hb (neC b o e hx) (I.base.keep b o e n hb hx) (I.base.free b o e n hx)
  . obtain⟨sl,e1⟩:=I.base.slot b o e n hb hx
    obtain⟨sl',e2⟩:=slot b _ (neL b o e) hb (neC b o e hx) e1 (I.base.free b o e n hx)
    exact⟨sl',e2⟩
  . obtain⟨o',e1⟩:=I.base.there b o e hx
    exact free b o' (neC b o e hx) e1 (I.base.free b o e n hx)
  . obtain⟨o',e1⟩:=I.base.there b o e hx
    exact there b o' (neC b o e hx) e1
  . obtain⟨m1,e1⟩:=I.base.tbls b ps e
    obtain⟨m2,e2⟩:=tbls b _ e1
    exact⟨m1 ++ m2,by rw [e2,Array.append_assoc]⟩
  . obtain⟨m,hn,hl⟩:=I.loc
    refine⟨m,ns m hn,fun i x v e1 e2 e3=>?_⟩
    obtain⟨u,r,l⟩:=hl i x v e1 e2 e3
    refine⟨u,r,?_⟩
    rcases l with l | ⟨k,c,e,z⟩
    . exact .inl l
    . exact .inr ⟨k,c,e,cellK x c e _ z⟩
  . obtain⟨v,z⟩:=I.cell x c e
    exact⟨v,cellK x c e v z⟩
  . obtain⟨m,⟨o,_,_,ho,_⟩,_⟩:=I.loc
    exact free _ o (fun z=>(hch _ z).2.1 rfl) ho I.free
  . obtain⟨v,o,ho,hd⟩:=I.cell x c e
    exact free c o (fun z=>(hch c z).2.2.1 x c e rfl) ho (I.freeC x c e)
  . obtain⟨e,n,ne,nf,d⟩:=I.pin p hp
    have nch:p.1 ∉ ch:=fun z=>(hch p.1 z).2.2.2 p hp rfl
    exact⟨keep p.1 p.2 ne nf nch e n,free p.1 p.2 nch e n,ne,nf,d⟩
theorem Inv.un {t':Nat}(I:Inv X pins σ H s) (u:Un X.fs [] H H' s.heap h') (hok:HOk X.prog X.w H' h'):Inv X pins σ H' { s with heap:=h',toks:=t' }:=by
  obtain⟨m,⟨o,es,ep,ho,r⟩,_⟩:=id I.loc
  obtain⟨sl,hL⟩:=u.any ho I.free (by simp)
  exact I.step (g':=s.gens) (d':=s.drawn) (ch:=[]) (fun _ z=>nomatch z) (fun b o _ hb _ e n=>u.keep b o e n hb (by simp)) (fun b o _ hb _ e n=>u.slot b o e n hb (by simp)) (fun b o _ e n=>u.free b o e n (by simp)) (fun b o _ e=>u.there b o e (by simp)) u.tups u.frzs u.tbls (fun m' hm=>by
    obtain⟨o',es',ep',ho',r'⟩:=hm
    rw [ho] at ho';cases ho'
    exact⟨_,es',ep',hL,r'⟩) hok I.bare
theorem Inv.call {g':Array GenState}{t':Nat}{d':Drawn}{ch:List Addr}(I:Inv X pins σ H s) (u:Un (frs X.stack) ch H H' s.heap h') (hok:HOk X.prog X.w H' h') (hg:AllBare g')
    (hch:∀ b ∈ ch,(b ∈ X.ex \/ X.s₀.heap.objs.size <= b) /\ b ≠ X.env.locals /\ (∀ x c,X.env.cells.lookup x=some c->c ≠ b) /\ ∀ p ∈ X.pn ++ pins,p.1 ≠ b) :
    Inv X pins σ H' { s with heap:=h',gens:=g',drawn:=d',toks:=t' }:=by
  obtain⟨m,⟨o,es,ep,ho,r⟩,_⟩:=id I.loc
  obtain⟨sl,hL⟩:=u.any ho I.free fun z=>(hch _ z).2.1 rfl
  exact I.step (ch:=ch) hch (fun b o hL hb hc e n=>u.keep b o e n (fun z=>(List.mem_cons.mp (I.stkSub b z)).elim hL hb) hc) (fun b o _ _ hc e n=>u.any e n hc) (fun b o hc e n=>u.free b o e n hc) (fun b o hc e=>u.there b o e hc) u.tups u.frzs u.tbls (fun m' hm=>by
    obtain⟨o',es',ep',ho',r'⟩:=hm
    rw [ho] at ho';cases ho'
    exact⟨_,es',ep',hL,r'⟩) hok hg
theorem Inv.turned {t':Nat}{it:Addr}(I:Inv X pins σ H s) (k:∀ b o,b ≠ it->s.heap.get? b=some o->h'.get? b=some o) (hn:H it=none) (hL:it ≠ X.env.locals)
    (h1:it ∈ X.ex \/ X.s₀.heap.objs.size <= it) (h2:∀ x c,X.env.cells.lookup x=some c->c ≠ it) (h3:∀ p ∈ X.pn ++ pins,p.1 ≠ it):Inv X pins σ H { s with heap:=h',toks:=t' }:=by
  have nit:∀ b u,H b=some u->b ≠ it:=fun b u e z=>by rw [z,hn] at e;cases e
  refine I.step (g':=s.gens) (d':=s.drawn) (ch:=[it]) (fun b hb=>?_) (fun b o _ _ hc e _=>k b o (fun z=>hc (by simp [z])) e) (fun b o _ _ hc e _=>⟨o.slots,k b o (fun z=>hc (by simp [z])) e⟩) (fun _ _ _ _ n=>n)
    (fun b o hc e=>⟨o,k b o (fun z=>hc (by simp [z])) e⟩) (fun _ _ e=>e) (fun _ _ _ e=>e) (fun b ps e=>⟨#[],by rw [e];simp⟩) (fun m hm=>?_) (fun b u e=>?_) I.bare
  . have e:b=it:=by simpa using hb
    subst e
    exact⟨h1,hL,h2,h3⟩
  . obtain⟨o,es,ep,ho,r⟩:=hm
    exact⟨o,es,ep,k _ o (Ne.symm hL) ho,r⟩
  . refine (I.hok b u e).stay (fun c v hc q=>k c v ?_ q) (fun _ q=>q) fun _ _ q=>q
    rcases hc with z | z
    . rw [z];exact nit b u e
    . exact nit c _ z
theorem Inv.tok (I:Inv X pins σ H s) (t:Nat):Inv X pins σ H { s with toks:=t }:=I.un (h':=s.heap) (t':=t) Un.refl I.hok
theorem Inv.kept {t':Nat}(I:Inv X pins σ H s) (k:∀ b u,s.heap.get? b=some u->h'.get? b=some u):Inv X pins σ H { s with heap:=h',toks:=t' }:=I.un (Un.kept k) (I.hok.kept k)
theorem Inv.laid {a:Addr}{o:HO}{t':Nat}(I:Inv X pins σ H s) (k:∀ b u,s.heap.get? b=some u->h'.get? b=some u) (hp:s.heap.objs.size <= a) (new:ObjOk X.prog X.w (upd H a o) h' a o) :
    Inv X pins σ (upd H a o) { s with heap:=h',toks:=t' }:=I.un (Un.laid k hp (I.hok.fresh hp)) (I.hok.laid k hp new)
theorem Inv.write {x e:Addr}{o:HO}{t':Nat}(I:Inv X pins σ H s) (mu:Mut (H x)) (he:e=x \/ H e=some (.own x)) (k:∀ b u,b ≠ e->s.heap.get? b=some u->h'.get? b=some u) (heo:∃ u,h'.get? e=some u)
    (new:ObjOk X.prog X.w (upd H x o) h' x o):Inv X pins σ (upd H x o) { s with heap:=h',toks:=t' }:=I.un (Un.write mu he k heo) (I.hok.write mu he k heo new)
theorem Inv.weak {σ':List (Option V)}(I:Inv X pins σ H s) (hl:σ'.length=σ.length) (w:∀ (i:Nat) v,σ'[i]? = some (some v)->σ[i]? = some (some v)):Inv X pins σ' H s :=
  ⟨I.ok,I.os,I.bare,I.base,let ⟨m,hn,hl'⟩:=I.loc;⟨m,hn,fun i x v e1 e2 e3=>hl' i x v e1 (w i v e2) e3⟩,I.cell,I.free,I.freeC,I.pin,I.hok,hl.trans I.len⟩
theorem Inv.pins_of {pins':List (Addr × Obj)}(I:Inv X pins σ H s) (h:∀ p ∈ pins',s.heap.get? p.1=some p.2 /\ H p.1=none /\ p.1 ≠ X.env.locals /\ p.1 ∉ X.fs /\ ∀ v,p.2.data ≠ .cell v):Inv X pins' σ H s :=
  ⟨I.ok,I.os,I.bare,I.base,I.loc,I.cell,I.free,I.freeC,fun p hp=>(List.mem_append.mp hp).elim (fun z=>I.pin p (List.mem_append_left _ z)) (h p),I.hok,I.len⟩
theorem xH {N:List Str}(hN:N.Nodup) {i j:Nat}{x:Str}(a:N[i]? = some x) (b:N[j]? = some x):i=j:=by
  obtain⟨h1,e1⟩:=List.getElem?_eq_some_iff.mp a
  obtain⟨h2,e2⟩:=List.getElem?_eq_some_iff.mp b
  exact (List.getElem_inj hN).mp (e1.trans e2.symm)
theorem tL {M:Model}{A:Around}{E:Value->Shared->Prop}{i:Nat}{x:Str}{v:V}{u:Value}{Q:Unit->Shared->Prop}(I:Inv X pins σ H s) (hN:X.N.Nodup) (hi:X.N[i]? = some x) (hx:Loc X.env.scope x) (r:RelV v u)
    (h:∀ s',Inv X pins (σ.set i (some v)) H s'->(∃ a,Heap.SameBut a s.heap s'.heap /\ (a=X.env.locals \/ X.env.cells.lookup x=some a))->Q () s') (hf:X.fn x=true \/ X.env.scope.names.lookup x=some .local:=by first | exact .inl rfl | exact .inr rfl | assumption):wpAny M A (storeName X.env x u) Q E s:=by
  obtain⟨m,hn,hl⟩:=id I.loc
  have hcls:(X.env.scope.kind == .class || (X.env.scope.kind == .module && X.env.locals != X.env.globals))=false:=by rw [I.ok.kind];rfl
  have hiσ:i < σ.length:=by rw [I.len];exact (List.getElem?_eq_some_iff.mp hi).1
  have cne:=I.cne
  have tracked:∀ {a:Addr}{h':Heap},(∃ o,s.heap.get? a=some o /\ H a=none)->Heap.SameBut a s.heap h'->HOk X.prog X.w H h':=fun {a h'} ha hs b ob e=>by
    obtain⟨_,_,hfree⟩:=ha
    refine (I.hok b ob e).stay (fun c w' hc q=>(hs.2 c ?_).trans q) (fun _ q=>q) fun _ _ q=>q
    rintro rfl
    rcases hc with rfl | hc
    . rw [hfree] at e;cases e
    . rw [hfree] at hc;cases hc
  rcases hx with hk | hk
  . refine wpAny_storeName_local hk hn (fun h' hn' hs=>?_) hcls
    obtain⟨oL,_,_,hoL,_⟩:=id hn
    refine h _ ⟨I.ok,I.os,I.bare,⟨fun b o e n hb hx=>?_,fun b o e n hb hx=>?_,I.base.free,fun b o e hx=>?_,I.base.tups,I.base.frzs,I.base.tbls⟩,⟨_,hn',fun j y v' e1 e2 e3=>?_⟩,fun y c e=>?_,I.free,I.freeC,fun p hp=>?_,tracked ⟨oL,hoL,I.free⟩ hs,by simpa using I.len⟩ ⟨_,hs,.inl rfl⟩
    . exact (hs.2 b (Nat.ne_of_lt (Nat.lt_of_lt_of_le (Heap.lt_size e) I.ok.above))).trans (I.base.keep b o e n hb hx)
    . obtain⟨sl,e1⟩:=I.base.slot b o e n hb hx
      exact⟨sl,(hs.2 b (Nat.ne_of_lt (Nat.lt_of_lt_of_le (Heap.lt_size e) I.ok.above))).trans e1⟩
    . obtain⟨o',e1⟩:=I.base.there b o e hx
      exact⟨o',(hs.2 b (Nat.ne_of_lt (Nat.lt_of_lt_of_le (Heap.lt_size e) I.ok.above))).trans e1⟩
    . by_cases hj:j=i
      . subst hj
        rw [hi] at e1;cases e1
        rw [List.getElem?_set_self hiσ] at e2
        cases e2
        exact⟨u,r,.inl ⟨hk,by simp⟩⟩
      . rw [List.getElem?_set_ne (Ne.symm hj)] at e2
        obtain⟨u',r',q⟩:=hl j y v' e1 e2 e3
        refine⟨u',r',?_⟩
        rcases q with ⟨k,e⟩ | ⟨k,c,e,z⟩
        . refine .inl ⟨k,?_⟩
          have:y ≠ x:=fun e=>hj (xH hN e1 (e ▸ hi))
          simp [this,e]
        . exact .inr ⟨k,c,e,z.sameBut hs (cne y c e)⟩
    . obtain⟨w',z⟩:=I.cell y c e
      exact⟨w',z.sameBut hs (cne y c e)⟩
    . obtain⟨e,n,ne,nf,d⟩:=I.pin p hp
      exact⟨(hs.2 p.1 ne).trans e,n,ne,nf,d⟩
  . have hfn:X.fn x=true:=by
      rcases hf with z | z
      . exact z
      . rw [z] at hk;cases hk
    obtain⟨c,hc⟩:=I.ok.has x (.inl hk)
    obtain⟨w',z⟩:=I.cell x c hc
    refine wpAny_storeName_cell I.ok.kind hk hc z (fun h' hc' hs=>?_)
    obtain⟨oc,hoc,hocd⟩:=id z
    refine h { s with heap:=h' } ⟨I.ok,I.os,I.bare,⟨fun b o e n hb hx=>?_,fun b o e n hb hx=>?_,I.base.free,fun b o e hx=>?_,I.base.tups,I.base.frzs,I.base.tbls⟩,⟨m,hn.sameBut hs (Ne.symm (cne x c hc)),fun j y v' e1 e2 e3=>?_⟩,fun y c' e=>?_,I.free,I.freeC,fun p hp=>?_,tracked ⟨oc,hoc,I.freeC x c hc⟩ hs,by simpa using I.len⟩ ⟨c,hs,.inr hc⟩
    . exact (hs.2 b (Nat.ne_of_lt (Nat.lt_of_lt_of_le (Heap.lt_size e) (I.ok.cab x c hfn hc)))).trans (I.base.keep b o e n hb hx)
    . obtain⟨sl,e1⟩:=I.base.slot b o e n hb hx
      exact⟨sl,(hs.2 b (Nat.ne_of_lt (Nat.lt_of_lt_of_le (Heap.lt_size e) (I.ok.cab x c hfn hc)))).trans e1⟩
    . obtain⟨o',e1⟩:=I.base.there b o e hx
      exact⟨o',(hs.2 b (Nat.ne_of_lt (Nat.lt_of_lt_of_le (Heap.lt_size e) (I.ok.cab x c hfn hc)))).trans e1⟩
    . by_cases hj:j=i
      . subst hj
        rw [hi] at e1;cases e1
        rw [List.getElem?_set_self hiσ] at e2
        cases e2
        exact⟨u,r,.inr ⟨.inl hk,c,hc,hc'⟩⟩
      . rw [List.getElem?_set_ne (Ne.symm hj)] at e2
        obtain⟨u',r',q⟩:=hl j y v' e1 e2 e3
        refine⟨u',r',?_⟩
        rcases q with q | ⟨k,c',e,z'⟩
        . exact .inl q
        . refine .inr ⟨k,c',e,z'.sameBut hs ?_⟩
          rintro rfl
          exact hj (xH hN e1 (I.ok.inj _ _ _ e hc ▸ hi))
    . by_cases hcc:c'=c
      . subst hcc;exact⟨_,hc'⟩
      . obtain⟨w2,z2⟩:=I.cell y c' e
        exact⟨w2,z2.sameBut hs hcc⟩
    . obtain⟨e,n,ne,nf,d⟩:=I.pin p hp
      refine⟨(hs.2 p.1 ?_).trans e,n,ne,nf,d⟩
      intro q
      rw [q,hoc] at e
      have q':oc=p.2:=Option.some.inj e
      exact d w' (by rw [<- q'];exact hocd)
theorem wL {M:Model}{A:Around}{E:Value->Shared->Prop}{i:Nat}{x:Str}{v:V}{u:Value}{Q:Unit->Shared->Prop}(I:Inv X pins σ H s) (hN:X.N.Nodup) (hi:X.N[i]? = some x) (hx:Loc X.env.scope x) (r:RelV v u)
    (h:∀ s',Inv X pins (σ.set i (some v)) H s'->Q () s') (hf:X.fn x=true \/ X.env.scope.names.lookup x=some .local:=by first | exact .inl rfl | exact .inr rfl | assumption):wpAny M A (storeName X.env x u) Q E s :=
  tL I hN hi hx r (fun s' I' _=>h s' I') hf
theorem Inv.call' {s':Shared}{ch:List Addr}(I:Inv X pins σ H s) (ho:s'.os=s.os) (u:Un (frs X.stack) ch H H' s.heap s'.heap) (hok:HOk X.prog X.w H' s'.heap) (hg:AllBare s'.gens)
    (hch:∀ b ∈ ch,(b ∈ X.ex \/ X.s₀.heap.objs.size <= b) /\ b ≠ X.env.locals /\ (∀ x c,X.env.cells.lookup x=some c->c ≠ b) /\ ∀ p ∈ X.pn ++ pins,p.1 ≠ b):Inv X pins σ H' s':=by
  obtain⟨h',g',d',t',o'⟩:=s'
  have e:o'=s.os:=ho
  subst e
  exact I.call (g':=g') (t':=t') (d':=d') u hok hg hch
end
noncomputable abbrev XK:=Value->Option Addr->Hp->Prop
noncomputable abbrev St:=List (Option V)
noncomputable abbrev VK:=V->Hp->Prop
noncomputable abbrev TE:=St->Hp->VK->Prop
noncomputable abbrev TT:=St->Hp->(Bool->Hp->Prop)->Prop
noncomputable abbrev TA:=St->Hp->(List V->Hp->Prop)->Prop
structure yN where
  nx:St->Hp->Prop
  rt:VK
  bk:St->Hp->Prop:=fun _ _=>False
  ct:St->Hp->Prop:=fun _ _=>False
noncomputable abbrev TS:=yN->St->Hp->Prop
noncomputable def EP (X:Cx) (pins:List (Addr × Obj)) (σ:St) (Q:VK) (u:Value) (s':Shared):Prop:=∃ v H',Inv X pins σ H' s' /\ RelV v u /\ Q v H'
noncomputable def TP (X:Cx) (pins:List (Addr × Obj)) (σ:St) (Q:Bool->Hp->Prop) (b:Bool) (s':Shared):Prop:=∃ H',Inv X pins σ H' s' /\ Q b H'
noncomputable def AP (X:Cx) (pins:List (Addr × Obj)) (σ:St) (Q:List V->Hp->Prop) (us:List Value) (s':Shared):Prop:=∃ vs H',Inv X pins σ H' s' /\ Vals vs us /\ Q vs H'
noncomputable def SP (X:Cx) (pins:List (Addr × Obj)) (D:yN) (f:Flow) (s':Shared):Prop :=
  match f with
  | .next=>∃ σ' H',Inv X pins σ' H' s' /\ D.nx σ' H'
  | .brk=>∃ σ' H',Inv X pins σ' H' s' /\ D.bk σ' H'
  | .cont=>∃ σ' H',Inv X pins σ' H' s' /\ D.ct σ' H'
  | .ret u=>∃ v σ' H',Inv X pins σ' H' s' /\ RelV v u /\ D.rt v H'
noncomputable def PE (X:Cx) (e:Expr) (t:TE):Prop :=
  ∀ (pins:List (Addr × Obj)) (s:Shared) (σ:St) (H:Hp) (Q:VK),Inv X pins σ H s->t σ H Q->wpAny (model X.prog X.w) X.A (eval e X.env) (EP X pins σ Q) X.xe s
noncomputable def PT (X:Cx) (e:Expr) (t:TT):Prop :=
  ∀ (pins:List (Addr × Obj)) (s:Shared) (σ:St) (H:Hp) (Q:Bool->Hp->Prop),Inv X pins σ H s->t σ H Q->wpAny (model X.prog X.w) X.A (isTrue e X.env (eval e X.env)) (TP X pins σ Q) X.xe s
noncomputable def PW (X:Cx) (e:Expr) (t:TT):Prop :=
  ∀ (whole:Sem Value) (pins:List (Addr × Obj)) (s:Shared) (σ:St) (H:Hp) (Q:Bool->Hp->Prop),Inv X pins σ H s->t σ H Q->wpAny (model X.prog X.w) X.A (isTrue e X.env whole) (TP X pins σ Q) X.xe s
theorem PW.pt {X:Cx}{e:Expr}{t:TT}(h:PW X e t):PT X e t:=h _
noncomputable def PA (X:Cx) (es:List Expr) (t:TA):Prop :=
  ∀ (pos:Pos) (pins:List (Addr × Obj)) (s:Shared) (σ:St) (H:Hp) (Q:List V->Hp->Prop),Inv X pins σ H s->t σ H Q->wpAny (model X.prog X.w) X.A (spliced (backTo pos (starEach es X.env))) (AP X pins σ Q) X.xe s
noncomputable def PS (X:Cx) (st:Stmt) (t:TS):Prop :=
  ∀ (pins:List (Addr × Obj)) (s:Shared) (σ:St) (H:Hp) (D:yN),Inv X pins σ H s->t D σ H->wpAny (model X.prog X.w) X.A (exec st X.env) (SP X pins D) X.xe s
noncomputable def PSs (X:Cx) (st:List Stmt) (t:TS):Prop :=
  ∀ (pins:List (Addr × Obj)) (s:Shared) (σ:St) (H:Hp) (D:yN),Inv X pins σ H s->t D σ H->wpAny (model X.prog X.w) X.A (execs st X.env) (SP X pins D) X.xe s
theorem thn {α:Type}{t:Sem α}{Q Q':α->Shared->Prop}{M:Model}{A:Around}{E:Value->Shared->Prop}{s:Shared}(h:wpAny M A t Q E s) (hQ:∀ a s,Q a s->Q' a s):wpAny M A t Q' E s:=wpAny_mono h hQ fun _ _ x=>x
section
variable {X:Cx}
theorem bin {a b:Expr}{ta tb:TE}(ha:PE X a ta) (hb:PE X b tb) {pins:List (Addr × Obj)}{s:Shared}{σ:St}{H:Hp}{R:V->V->Hp->Prop}(I:Inv X pins σ H s) (h:ta σ H fun x H1=>tb σ H1 fun y H2=>R x y H2)
    {α:Type}{Q:α->Shared->Prop}{f:Value->Value->Sem α}
    (hf:∀ v u s2 x y H2,Inv X pins σ H2 s2->RelV x v->RelV y u->R x y H2->wpAny (model X.prog X.w) X.A (f v u) Q X.xe s2) :
    wpAny (model X.prog X.w) X.A (eval a X.env) (fun v s₁=>wpAny (model X.prog X.w) X.A (eval b X.env) (fun u s₂=>wpAny (model X.prog X.w) X.A (f v u) Q X.xe s₂) X.xe s₁) X.xe s:=by
  refine thn (ha pins s σ H _ I h) fun v s1 ⟨x,H1,I1,r1,q1⟩=>?_
  refine thn (hb pins s1 σ H1 _ I1 q1) fun u s2 ⟨y,H2,I2,r2,q2⟩=>?_
  exact hf v u s2 x y H2 I2 r1 r2 q2
noncomputable def wJ (i:Nat):TE:=fun σ H Q=>∃ v,σ[i]? = some (some v) /\ Q v H
noncomputable def tC (v:V):TE:=fun _ H Q=>Q v H
theorem iK {i:Nat}{x:Str}{pos:Pos}(hN:X.N[i]? = some x) (hv:Vis X.env.scope x) (hd:(x == ("__debug__" : Str))=false:=by decide) (hcd:(x == ("__classdict__" : Str))=false:=by decide):PE X (.Name x pos) (wJ i):=by
  intro pins s σ H Q I h
  obtain⟨v,e,h⟩:=h
  obtain⟨m,hn,hl⟩:=I.loc
  obtain⟨u,r,l⟩:=hl i x v hN e hv
  have fin:EP X pins σ Q u s:=⟨v,H,I,r,h⟩
  rcases l with ⟨hk,hm⟩ | ⟨hk,c,hc,hcell⟩
  . exact wpAny_Name (wpAny_loadName_local I.ok.kind hk hn hm fin) hd
  . rcases hk with hk | hk
    . exact wpAny_Name (wpAny_loadName_cell I.ok.kind hk hc hcell fin) hd
    . exact wpAny_Name (wpAny_loadName_free I.ok.kind hk hc hcell fin hcd) hd
theorem pe_int {i j pos}:PE X (.Constant (.int i) j pos) (tC (.int i)):=fun _ _ _ H _ I h=>wpAny_Constant_int ⟨.int i,H,I.tok _,⟨_,rfl⟩,h⟩
theorem Z3h {b j pos}:PE X (.Constant (.bool b) j pos) (tC (.bl b)):=fun _ _ _ H _ I h=>Constant_bool ⟨.bl b,H,I,rfl,h⟩
theorem Z2n {j pos}:PE X (.Constant .none j pos) (tC .non):=fun _ _ _ H _ I h=>Constant_none ⟨.non,H,I,rfl,h⟩
theorem Z2l {x j pos}:PE X (.Constant (.str x) j pos) (tC (.str x)):=fun _ _ _ H _ I h=>Calls.Constant_str ⟨.str x,H,I.tok _,⟨_,rfl⟩,h⟩
noncomputable def Gl (X:Cx) (x:Str):Prop:=X.env.kindOf x=some .globalImplicit
theorem vH {E:Value->Shared->Prop}{pins:List (Addr × Obj)}{s:Shared}{σ:St}{H:Hp}{x:Str}{u:Value}{pos:Pos}{Q:Value->Shared->Prop}(I:Inv X pins σ H s) (hg:Gl X x) (hm:X.mg x=some u) (h:Q u s)
    (hd:(x == ("__debug__" : Str))=false:=by decide):wpAny (model X.prog X.w) X.A (eval (.Name x pos) X.env) Q E s :=
  Calls.Name_function_global I.ok.kind hg (Calls.loadGlobal_global (by rw [I.ok.glob];exact I.mod.glob.keeps I.bk) hm h) hd
theorem nF {E:Value->Shared->Prop}{pins:List (Addr × Obj)}{s:Shared}{σ:St}{H:Hp}{x:Str}{u:Value}{pos:Pos}{Q:Value->Shared->Prop}(I:Inv X pins σ H s) (hg:Gl X x) (hm:X.mg x=none) (hv:bootBuiltins x=some u) (h:Q u s)
    (hn:x ≠ "__name__":=by decide) (hd:(x == ("__debug__" : Str))=false:=by decide):wpAny (model X.prog X.w) X.A (eval (.Name x pos) X.env) Q E s:=by
  obtain⟨mb,h1,h2⟩:=I.mod.blt
  exact Calls.Name_function_global I.ok.kind hg (Calls.loadGlobal_builtin (by rw [I.ok.glob];exact I.mod.glob.keeps I.bk) hm (by rw [I.ok.blt];exact h1.keeps I.bk) ((h2 x hn).trans hv) h) hd
theorem Z10 {x:Str}{v:V}{u:Value}{pos:Pos}(hg:Gl X x) (hm:X.mg x=none) (hv:bootBuiltins x=some u) (r:RelV v u) (hn:x ≠ "__name__":=by decide) (hd:(x == ("__debug__" : Str))=false:=by decide):PE X (.Name x pos) (tC v) :=
  fun _ _ _ H _ I h=>nF I hg hm hv ⟨v,H,I,r,h⟩ hn hd
variable {a b:Expr}{ta tb:TE}{pos:Pos}
noncomputable def PC (X:Cx) (op:CmpOp) (a b:Expr) (t:TE):Prop :=
  ∀ (pins:List (Addr × Obj)) (s:Shared) (σ:St) (H:Hp) (Q:VK),Inv X pins σ H s->t σ H Q ->
    wpAny (model X.prog X.w) X.A (eval a X.env) (fun v s₁=>wpAny (model X.prog X.w) X.A (eval b X.env) (fun u s₂=>wpAny (model X.prog X.w) X.A (compareOp op v u) (EP X pins σ Q) X.xe s₂) X.xe s₁) X.xe s
theorem X7 (b:Expr) {op:CmpOp}(h:op ≠ .In) (h2:op ≠ .NotIn):behindInMarks op b=false:=by
  have e1:(op == CmpOp.In)=false:=by cases op <;> first | rfl | exact absurd rfl h
  have e2:(op == CmpOp.NotIn)=false:=by cases op <;> first | rfl | exact absurd rfl h2
  cases b <;> simp [behindInMarks,e1,e2]
noncomputable def tB (t:TE):TT:=fun σ H Q=>t σ H fun x H1=>∃ c,x=.bl c /\ Q c H1
theorem pt_cmp {op:CmpOp}{t:TE}(h:PC X op a b t) (h1:behindInMarks op b=false:=by first | exact X7 _ (by decide) (by decide) | rfl):PT X (.Compare a [op] [b] pos) (tB t):=by
  intro pins s σ H Q I hw
  refine wpAny_isTrue_Compare1 (thn (h pins s σ H _ I hw) fun v s1 h1=>thn h1 fun u s2 h2=>thn h2 fun c s3 ⟨x,H1,I1,r1,q1⟩=>?_) h1
  obtain⟨d,rfl,q⟩:=q1
  cases r1
  exact wpAny_truthy_bool ⟨H1,I1,q⟩
theorem Z2f {e:Expr}{t:TE}(h:PE X e t) (he:∀ whole,isTrue e X.env whole=(do let v <- whole;standAt e.pos;holding [v] (truthy v)):=by intro _;rfl):PT X e (tB t):=by
  intro pins s σ H Q I hw
  refine isTrue_plain (thn (h pins s σ H _ I hw) fun v s1 ⟨x,H1,I1,r1,q1⟩=>?_) (he _)
  obtain⟨d,rfl,q⟩:=q1
  cases r1
  exact wpAny_truthy_bool ⟨H1,I1,q⟩
variable {tA tB':TT}{rest:List Expr}
noncomputable def Z3U (t u:TT):TT:=fun σ H Q=>t σ H fun c H1=>if c=true then u σ H1 Q else Q false H1
noncomputable def tOr (t u:TT):TT:=fun σ H Q=>t σ H fun c H1=>if c=true then Q true H1 else u σ H1 Q
noncomputable def Z3N (t:TT):TT:=fun σ H Q=>t σ H fun c H1=>Q (!c) H1
theorem Z0Q (ha:PT X a tA):PW X (.BoolOp .And [a] pos) tA:=by
  intro wh pins s σ H Q I h
  refine isTrue_and (thn (ha pins s σ H Q I h) fun c s1 e=>?_)
  cases c with
  | true=>exact isTrue_and_nil e
  | false=>exact e
theorem Z2d (ha:PT X a tA):PW X (.BoolOp .Or [a] pos) tA:=by
  intro wh pins s σ H Q I h
  refine isTrue_or (thn (ha pins s σ H Q I h) fun c s1 e=>?_)
  cases c with
  | false=>exact isTrue_or_nil e
  | true=>exact e
theorem Z2e (ha:PT X a tA) (hb:PW X (.BoolOp .And (b :: rest) pos) tB'):PW X (.BoolOp .And (a :: b :: rest) pos) (Z3U tA tB'):=by
  intro wh pins s σ H Q I h
  refine isTrue_and (thn (ha pins s σ H _ I h) fun c s1 ⟨H1,I1,q1⟩=>?_)
  cases c with
  | true=>exact hb wh pins s1 σ H1 Q I1 q1
  | false=>exact⟨H1,I1,q1⟩
theorem Z3c (ha:PT X a tA) (hb:PW X (.BoolOp .Or (b :: rest) pos) tB'):PW X (.BoolOp .Or (a :: b :: rest) pos) (tOr tA tB'):=by
  intro wh pins s σ H Q I h
  refine isTrue_or (thn (ha pins s σ H _ I h) fun c s1 ⟨H1,I1,q1⟩=>?_)
  cases c with
  | true=>exact⟨H1,I1,q1⟩
  | false=>exact hb wh pins s1 σ H1 Q I1 q1
theorem pt_not (ha:PT X a tA):PT X (.UnaryOp .Not a pos) (Z3N tA):=by
  intro pins s σ H Q I h
  exact isTrue_not (ha pins s σ H (fun c H1=>Q (!c) H1) I h)
noncomputable def Z2T (ta tb:TE):TE:=fun σ H Q=>ta σ H fun x H1=>∃ c,x=.bl c /\ if c=true then tb σ H1 Q else Q (.bl false) H1
noncomputable def Z3M (ta tb:TE):TE:=fun σ H Q=>ta σ H fun x H1=>∃ c,x=.bl c /\ if c=true then Q (.bl true) H1 else tb σ H1 Q
noncomputable def Z2O (ta:TE):TE:=fun σ H Q=>ta σ H fun x H1=>∃ c,x=.bl c /\ Q (.bl (!c)) H1
theorem Z2m {op} {t:TE}(h:PE X a t):PE X (.BoolOp op [a] pos) t:=fun pins s σ H Q I hw=>BoolOp_one (h pins s σ H Q I hw)
theorem pe_and (ha:PE X a ta) (hb:PE X (.BoolOp .And (b :: rest) pos) tb):PE X (.BoolOp .And (a :: b :: rest) pos) (Z2T ta tb):=by
  intro pins s σ H Q I h
  refine BoolOp_and (thn (ha pins s σ H _ I h) fun v s1 ⟨x,H1,I1,r1,q1⟩=>?_)
  obtain⟨c,rfl,q1⟩:=q1
  cases r1
  refine wpAny_truthy_bool ?_
  cases c with
  | true=>exact hb pins s1 σ H1 Q I1 q1
  | false=>exact⟨.bl false,H1,I1,rfl,q1⟩
theorem pe_or (ha:PE X a ta) (hb:PE X (.BoolOp .Or (b :: rest) pos) tb):PE X (.BoolOp .Or (a :: b :: rest) pos) (Z3M ta tb):=by
  intro pins s σ H Q I h
  refine BoolOp_or (thn (ha pins s σ H _ I h) fun v s1 ⟨x,H1,I1,r1,q1⟩=>?_)
  obtain⟨c,rfl,q1⟩:=q1
  cases r1
  refine wpAny_truthy_bool ?_
  cases c with
  | false=>exact hb pins s1 σ H1 Q I1 q1
  | true=>exact⟨.bl true,H1,I1,rfl,q1⟩
theorem pe_not (ha:PE X a ta):PE X (.UnaryOp .Not a pos) (Z2O ta):=by
  intro pins s σ H Q I h
  refine UnaryOp_ (thn (ha pins s σ H _ I h) fun v s1 ⟨x,H1,I1,r1,q1⟩=>?_)
  obtain⟨c,rfl,q1⟩:=q1
  cases r1
  exact not_of (wpAny_truthy_bool ⟨.bl (!c),H1,I1,rfl,q1⟩)
end
noncomputable def SqL (K:Frag) (H:Hp) (a:Addr) (xs:List V):Prop :=
  Rd H a (.lst xs) \/
    ∃ (o:Obj) (its:Array Value) (n:Nat),K.lookup a=some o /\ o.cls=.type "list" /\ o.dict=none /\ o.data=.seq its n /\ its.size <= sizeLine /\ Vals xs its.toList
noncomputable def SqT (K:Frag) (H:Hp) (a:Addr) (xs:List V):Prop :=
  Rd H a (.tup xs) \/
    ∃ (o:Obj) (its:Array Value) (n:Nat),K.lookup a=some o /\ o.cls=.type "tuple" /\ o.data=.seq its n /\ its.size <= sizeLine /\ Vals xs its.toList
noncomputable def Z4f:Value->Option V
  | .none=>some .non
  | .bool b=>some (.bl b)
  | .int i _=>some (.int i)
  | .str x _=>some (.str x)
  | .bytes b _=>some (.byt b)
  | .float b _=>some (.flt b)
  | .ref a=>some (.ref a)
  | .type n=>some (.ty n)
  | _=>none
theorem RelV.abs {x:V}{u:Value}(r:RelV x u):Z4f u=some x:=by
  cases x with
  | non=>cases r;rfl
  | bl _=>cases r;rfl
  | int _=>obtain⟨t,rfl⟩:=r;rfl
  | str _=>obtain⟨t,rfl⟩:=r;rfl
  | byt _=>obtain⟨t,rfl⟩:=r;rfl
  | flt _=>obtain⟨t,rfl⟩:=r;rfl
  | ref _=>cases r;rfl
  | ty _=>cases r;rfl
theorem RelV.inj {x y:V}{u:Value}(r:RelV x u) (q:RelV y u):x=y:=Option.some.inj (r.abs.symm.trans q.abs)
theorem Vals.inj:∀ {xs ys:List V}{us:List Value},Vals xs us->Vals ys us->xs=ys
  | _,_,_,.nil,.nil=>rfl
  | _,_,_,.cons r t,.cons r' t'=>by rw [r.inj r',Vals.inj t t']
section
variable {X:Cx}{pins:List (Addr × Obj)}{σ:St}{H:Hp}{s:Shared}{a:Addr}{xs ys:List V}
theorem SqL.of {K:Frag}(h:H a=some (.lst xs)):SqL K H a xs:=.inl (.inl h)
theorem SqT.of {K:Frag}(h:H a=some (.tup xs)):SqT K H a xs:=.inl (.inl h)
theorem Inv.list (I:Inv X pins σ H s) (h:SqL X.K H a xs):∃ its:List Value,Vals xs its /\ PlainL s.heap a its.toArray /\ xs.length <= sizeLine:=by
  rcases h with h | ⟨o,its,n,hk,hc,hd,hs,hz,r⟩
  . obtain⟨z,its,n,r,e⟩:=h.ok I.hok
    exact⟨its,r,⟨_,n,e,rfl,rfl,rfl⟩,z⟩
  . refine⟨its.toList,r,⟨o,n,I.kIn a o hk,hc,hd,by simpa using hs⟩,?_⟩
    have e:=r.length
    simp only [Array.length_toList] at e
    omega
theorem Inv.tuple (I:Inv X pins σ H s) (h:SqT X.K H a xs):∃ its:List Value,Vals xs its /\ IsTup s.heap a its.toArray /\ xs.length <= sizeLine:=by
  rcases h with h | ⟨o,its,n,hk,hc,hs,hz,r⟩
  . obtain⟨z,its,r,p⟩:=h.ok I.hok
    exact⟨its,r,p,z⟩
  . refine⟨its.toList,r,⟨o,I.kIn a o hk,hc,n,by simpa using hs⟩,?_⟩
    have e:=r.length
    simp only [Array.length_toList] at e
    omega
theorem Inv.list_inj (I:Inv X pins σ H s) (h:SqL X.K H a xs) (h':SqL X.K H a ys):xs=ys:=by
  obtain⟨its,r,⟨o,n,e,_,_,d⟩,_⟩:=I.list h
  obtain⟨its',r',⟨o',n',e',_,_,d'⟩,_⟩:=I.list h'
  rw [e] at e';cases e'
  rw [d] at d'
  injection d' with d1 _
  have:its=its':=by simpa using congrArg Array.toList d1
  subst this
  exact r.inj r'
theorem Inv.tuple_inj (I:Inv X pins σ H s) (h:SqT X.K H a xs) (h':SqT X.K H a ys):xs=ys:=by
  obtain⟨its,r,⟨o,e,_,n,d⟩,_⟩:=I.tuple h
  obtain⟨its',r',⟨o',e',_,n',d'⟩,_⟩:=I.tuple h'
  rw [e] at e';cases e'
  rw [d] at d'
  injection d' with d1 _
  have:its=its':=by simpa using congrArg Array.toList d1
  subst this
  exact r.inj r'
end
noncomputable abbrev Cx.wish (X:Cx) (E:Value->Shared->Prop):Cx:={ X with xe:=E }
noncomputable abbrev Cx.nox (X:Cx):Cx:=X.wish fun _ _=>False
theorem Cx.Ok.wish {X:Cx}(ok:X.Ok) (E:Value->Shared->Prop):(X.wish E).Ok :=
  ⟨ok.mod,ok.kind,ok.glob,ok.blt,ok.above,ok.inj,ok.has,ok.cab,ok.hd,ok.frames,ok.stk,ok.exf,ok.bs,ok.bsz,ok.noex,ok.exfs,ok.funs,ok.frf⟩
theorem Cx.Ok.unwish {X:Cx}{E:Value->Shared->Prop}(ok:(X.wish E).Ok):X.Ok :=
  ⟨ok.mod,ok.kind,ok.glob,ok.blt,ok.above,ok.inj,ok.has,ok.cab,ok.hd,ok.frames,ok.stk,ok.exf,ok.bs,ok.bsz,ok.noex,ok.exfs,ok.funs,ok.frf⟩
section
variable {X:Cx}{pins:List (Addr × Obj)}{σ:St}{H:Hp}{s:Shared}{E:Value->Shared->Prop}
theorem Inv.wish (I:Inv X pins σ H s) (E:Value->Shared->Prop):Inv (X.wish E) pins σ H s:=⟨I.ok.wish E,I.os,I.bare,I.base,I.loc,I.cell,I.free,I.freeC,I.pin,I.hok,I.len⟩
theorem Inv.unwish (I:Inv (X.wish E) pins σ H s):Inv X pins σ H s:=⟨I.ok.unwish,I.os,I.bare,I.base,I.loc,I.cell,I.free,I.freeC,I.pin,I.hok,I.len⟩
theorem SP.unwish {D:yN}{f:Flow}{s':Shared}(h:SP (X.wish E) pins D f s'):SP X pins D f s':=by
  cases f with
  | next=>obtain⟨σ',H',I,q⟩:=h;exact⟨σ',H',I.unwish,q⟩
  | brk=>obtain⟨σ',H',I,q⟩:=h;exact⟨σ',H',I.unwish,q⟩
  | cont=>obtain⟨σ',H',I,q⟩:=h;exact⟨σ',H',I.unwish,q⟩
  | ret u=>obtain⟨v,σ',H',I,r,q⟩:=h;exact⟨v,σ',H',I.unwish,r,q⟩
theorem PE.nox {e:Expr}{t:TE}(h:PE X.nox e t):PE X e t:=fun pins s σ H Q I hw =>
  wpAny_mono (h pins s σ H Q (I.wish _) hw) (fun _ _ ⟨v,H',I',r,q⟩=>⟨v,H',I'.unwish,r,q⟩) fun _ _ z=>False.elim z
theorem PT.nox {e:Expr}{t:TT}(h:PT X.nox e t):PT X e t:=fun pins s σ H Q I hw =>
  wpAny_mono (h pins s σ H Q (I.wish _) hw) (fun _ _ ⟨H',I',q⟩=>⟨H',I'.unwish,q⟩) fun _ _ z=>False.elim z
theorem PSs.nox {st:List Stmt}{t:TS}(h:PSs X.nox st t):PSs X st t:=fun pins s σ H D I hw =>
  wpAny_mono (h pins s σ H D (I.wish _) hw) (fun _ _ q=>q.unwish) fun _ _ z=>False.elim z
end
section
variable {X:Cx}{st:Stmt}{rest:List Stmt}{t u:TS}{e:Expr}{te:TE}{pos:Pos}
noncomputable def Z2P:TS:=fun D σ H=>D.nx σ H
noncomputable def Z1W (t u:TS):TS:=fun D σ H=>t { D with nx:=u D } σ H
theorem Z0U:PSs X [] Z2P:=fun _ _ σ H _ I h=>wpAny_execs_nil ⟨σ,H,I,h⟩
theorem rH (h1:PS X st t) (h2:PSs X rest u):PSs X (st :: rest) (Z1W t u):=by
  intro pins s σ H D I h
  refine wpAny_execs_cons (thn (h1 pins s σ H { D with nx:=u D } I h) fun f s1 q=>?_)
  cases f with
  | next =>
    obtain⟨σ',H',I',q⟩:=q
    exact h2 pins s1 σ' H' D I' q
  | ret v=>exact q
  | brk=>exact q
  | cont=>exact q
theorem D6 (h1:PS X st t):PSs X [st] t:=by
  intro pins s σ H D I h
  refine wpAny_execs_cons (thn (h1 pins s σ H D I h) fun f s1 q=>?_)
  cases f with
  | next=>exact wpAny_execs_nil q
  | ret v=>exact q
  | brk=>exact q
  | cont=>exact q
theorem Inv.quiet {pins:List (Addr × Obj)}{σ:St}{H:Hp}{s:Shared}(I:Inv X pins σ H s):interactive X.env=false:=by simp [interactive,I.ok.kind]
noncomputable def Z2R (te:TE):TS:=fun D σ H=>te σ H fun _ H1=>D.nx σ H1
theorem D7 (he:PE X e te) (hs:swapsWith e none pos.line X.env=pure false:=by rfl):PS X (.Expr e pos) (Z2R te):=by
  intro pins s σ H D I h
  exact wpAny_Expr_any (thn (he pins s σ H _ I h) fun v s1 ⟨x,H1,I1,r1,q1⟩=>⟨σ,H1,I1,q1⟩) I.quiet hs
noncomputable def Z3L (te:TE):TS:=fun D σ H=>te σ H D.rt
theorem zK (he:PE X e te):PS X (.Return (some e) pos) (Z3L te):=by
  intro pins s σ H D I h
  exact wpAny_Return_some (thn (he pins s σ H _ I h) fun v s1 ⟨x,H1,I1,r1,q1⟩=>⟨x,σ,H1,I1,r1,q1⟩)
noncomputable def Z3P (c:TT) (t u:TS):TS:=fun D σ H=>c σ H fun b H1=>if b=true then t D σ H1 else u D σ H1
theorem Z3d {c:Expr}{a b:List Stmt}{tc:TT}(hc:PT X c tc) (ha:PSs X a t) (hb:PSs X b u):PS X (.If c a b pos) (Z3P tc t u):=by
  intro pins s σ H D I h
  refine wpAny_If (thn (hc pins s σ H _ I h) fun d s1 ⟨H1,I1,q1⟩=>?_)
  cases d with
  | true=>exact ha pins s1 σ H1 D I1 q1
  | false=>exact hb pins s1 σ H1 D I1 q1
end
noncomputable abbrev TG:=V->St->Hp->(St->Hp->Prop)->Prop
noncomputable abbrev TGs:=List V->St->Hp->(St->Hp->Prop)->Prop
noncomputable def PG (X:Cx) (target:Expr) (t:TG):Prop :=
  ∀ (pins:List (Addr × Obj)) (s:Shared) (σ:St) (H:Hp) (v:V) (u:Value) (Q:St->Hp->Prop),Inv X pins σ H s->RelV v u->t v σ H Q ->
    wpAny (model X.prog X.w) X.A (assign target X.env u) (fun _ s'=>∃ σ' H',Inv X pins σ' H' s' /\ Q σ' H') X.xe s
noncomputable def PGs (X:Cx) (ts:List Expr) (t:TGs):Prop :=
  ∀ (pins:List (Addr × Obj)) (s:Shared) (σ:St) (H:Hp) (vs:List V) (us:List Value) (Q:St->Hp->Prop),Inv X pins σ H s->Vals vs us->t vs σ H Q ->
    wpAny (model X.prog X.w) X.A (assignInOrder ((assignEach ts X.env).map (·.2)) us) (fun _ s'=>∃ σ' H',Inv X pins σ' H' s' /\ Q σ' H') X.xe s
noncomputable abbrev Z2I:=V->V->V->Hp->(Hp->Prop)->Prop
noncomputable def Z3D (X:Cx) (t:Z2I):Prop :=
  ∀ (pins:List (Addr × Obj)) (s:Shared) (σ:St) (H:Hp) (o i v:V) (ov iv u:Value) (Q:Hp->Prop),Inv X pins σ H s->RelV o ov->RelV i iv->RelV v u->t o i v H Q ->
    wpAny (model X.prog X.w) X.A (setItem ov iv u) (fun _ s'=>∃ H',Inv X pins σ H' s' /\ Q H') X.xe s
section
variable {X:Cx}{pos:Pos}
noncomputable def uE (i:Nat):TG:=fun v σ H Q=>Q (σ.set i (some v)) H
theorem dU {i:Nat}{x:Str}(hN:X.N.Nodup) (hi:X.N[i]? = some x) (hx:Loc X.env.scope x) (hf:X.fn x=true \/ X.env.scope.names.lookup x=some .local:=by first | exact .inl rfl | exact .inr rfl | assumption):PG X (.Name x pos) (uE i):=by
  intro pins s σ H v u Q I r h
  exact wpAny_assign_Name (wL I hN hi hx r (fun s' I'=>⟨_,H,I',h⟩) hf)
noncomputable def Z3w:TGs:=fun vs σ H Q=>vs=[] /\ Q σ H
noncomputable def Z1J (t:TG) (u:TGs):TGs:=fun vs σ H Q=>∃ v r,vs=v :: r /\ t v σ H fun σ' H'=>u r σ' H' Q
theorem mN:PGs X [] Z3w:=by
  intro pins s σ H vs us Q I r h
  obtain⟨e,h⟩:=h
  subst e
  cases r
  exact assignInOrder_nil ⟨σ,H,I,h⟩
theorem eR {e:Expr}{es:List Expr}{t:TG}{u:TGs}(h1:PG X e t) (h2:PGs X es u)
    (hs:(assignEach (e :: es) X.env).map (·.2)=assign e X.env :: (assignEach es X.env).map (·.2):=by rfl):PGs X (e :: es) (Z1J t u):=by
  intro pins s σ H vs us Q I r h
  obtain⟨v,vr,e1,h⟩:=h
  subst e1
  cases r with
  | cons r rr =>
    rw [hs]
    refine assignInOrder_cons (thn (h1 pins s σ H _ _ _ I r h) fun _ s1 ⟨σ1,H1,I1,q1⟩=>?_)
    exact h2 pins s1 σ1 H1 _ _ Q I1 rr q1
noncomputable def Z4c (K:Frag) (n:Nat) (t:TGs):TG:=fun v σ H Q=>∃ a xs,v=.ref a /\ SqT K H a xs /\ xs.length=n /\ t xs σ H Q
theorem Z2j {es:List Expr}{k:Nat}{t:TGs}{n:Nat}(hc:X.calm=true) (h:PGs X es t)
    (hn:(assignEach es X.env).length=n:=by rfl) (hst:(assignEach es X.env).findIdx? (·.1)=none:=by rfl):PG X (.Tuple es k pos) (Z4c X.K n t):=by
  intro pins s σ H v u Q I r hw
  obtain⟨a,xs,e1,hq,hl,hw⟩:=hw
  subst e1
  cases r
  obtain⟨its,rv,ht,hz⟩:=I.tuple hq
  refine assign_Tuple_tuple (I.ok.hd hc) ht (by simp [hn,<- hl,rv.length]) hst fun h' hx=>?_
  have I1:Inv X pins σ H { s with heap:=h' }:=I.kept (t':=s.toks) fun b o e=>hx b o (Nat.ne_of_lt (Heap.lt_size e)) e
  exact h pins _ σ H xs _ Q I1 (by simpa using rv) hw
noncomputable def Z3v (to ti:TE) (t:Z2I):TG:=fun v σ H Q=>to σ H fun o H1=>ti σ H1 fun i H2=>t o i v H2 fun H3=>Q σ H3
theorem Z2k {o i:Expr}{to ti:TE}{t:Z2I}(ho:PE X o to) (hi:PE X i ti) (hs:Z3D X t)
    (ha:∀ v,assign (.Subscript o i pos) X.env v=(do
      let ov <- holding [v] (eval o X.env)
      let iv <- holding [v,ov] (eval i X.env)
      standAt pos
      holding [v,ov,iv] (setItem ov iv v)
      release [v,ov,iv] []):=by intro _;rfl):PG X (.Subscript o i pos) (Z3v to ti t):=by
  intro pins s σ H v u Q I r h
  rw [ha]
  refine wpAny_bind (wpAny_holding (thn (ho pins s σ H _ I h) fun ov s1 ⟨x,H1,I1,r1,q1⟩=>?_))
  refine wpAny_bind (wpAny_holding (thn (hi pins s1 σ H1 _ I1 q1) fun iv s2 ⟨y,H2,I2,r2,q2⟩=>?_))
  refine wpAny_bind (wpAny_standAt (wpAny_bind (wpAny_holding (thn (hs pins s2 σ H2 x y v ov iv u _ I2 r1 r2 r q2) fun _ s3 ⟨H3,I3,q3⟩=>?_))))
  exact wpAny_release ⟨σ,H3,I3,q3⟩
noncomputable def K8 (te:TE) (g:TG):TS:=fun D σ H=>te σ H fun x H1=>g x σ H1 D.nx
theorem W2 {tg e:Expr}{te:TE}{g:TG}(he:PE X e te) (hg:PG X tg g) (hs:swapsWithSole [tg] e pos.line X.env=pure false:=by rfl) (hw:swappedStores [tg] e X.env=pure none:=by rfl)
    (h1:(assignEach [tg] X.env).map (·.2)=[assign tg X.env]:=by rfl):PS X (.Assign [tg] e pos) (K8 te g):=by
  intro pins s σ H D I h
  refine wpAny_Assign_stores (thn (he pins s σ H _ I h) fun v s1 ⟨x,H1,I1,r1,q1⟩=>?_) hs hw
  rw [h1]
  exact thn (hg pins s1 σ H1 x v _ I1 r1 q1) fun _ s2 q=>q
theorem zJ {i:Nat}{x:Str}{e:Expr}{te:TE}{pos':Pos}(hN:X.N.Nodup) (hi:X.N[i]? = some x) (hx:Loc X.env.scope x) (he:PE X e te) (hs:swapsWith e (some (.Name x pos')) pos.line X.env=pure false:=by rfl) (hf:X.fn x=true \/ X.env.scope.names.lookup x=some .local:=by first | exact .inl rfl | exact .inr rfl | assumption) :
    PS X (.Assign [.Name x pos'] e pos) (K8 te (uE i)):=by
  intro pins s σ H D I h
  refine wpAny_Assign_Name (thn (he pins s σ H _ I h) fun v s1 ⟨y,H1,I1,r1,q1⟩=>?_) hs
  exact wL I1 hN hi hx r1 (fun s2 I2=>⟨_,H1,I2,q1⟩) hf
end
section
variable {X:Cx}{pos:Pos}
noncomputable def Z1V (c:TT) (tb:TS):TS:=fun D σ H=>∃ W:Nat->St->Hp->Prop,(∃ m,W m σ H) /\ ∀ m σ H,W m σ H ->
  c σ H fun b H1=>if b=true then ∃ N:St->Hp->Prop,(∀ σ' H',N σ' H'->∃ m',m' < m /\ W m' σ' H') /\ tb { D with nx:=N,ct:=N,bk:=D.nx } σ H1 else D.nx σ H1
theorem W1 {c:Expr}{body:List Stmt}{tc:TT}{tb:TS}(hp:PassesOwn (model X.prog X.w) X.A X.env X.xe) (hc:PT X c tc) (hb:PSs X body tb):PS X (.While c body [] pos) (Z1V tc tb):=by
  intro pins s σ H D I h
  obtain⟨W,⟨m0,w0⟩,turn⟩:=h
  refine wpAny_While (codeAny_whileLoop (fun n s'=>∃ σ' H',Inv X pins σ' H' s' /\ W n σ' H') ?_ m0 ⟨σ,H,I,w0⟩)
  rintro n s1 ⟨σ1,H1,I1,w1⟩
  refine wpAny_passesOwn hp (thn (hc pins s1 σ1 H1 _ I1 (turn n σ1 H1 w1)) fun b s2 ⟨H2,I2,q2⟩=>?_)
  cases b with
  | true =>
    obtain⟨N,hN,q2⟩:=q2
    rw [if_pos rfl]
    refine wpAny_passesOwn hp (thn (hb pins s2 σ1 H2 _ I2 q2) fun f s3 q3=>?_)
    cases f with
    | next =>
      obtain⟨σ3,H3,I3,n3⟩:=q3
      obtain⟨m',hm,w3⟩:=hN σ3 H3 n3
      exact⟨m',hm,σ3,H3,I3,w3⟩
    | cont =>
      obtain⟨σ3,H3,I3,n3⟩:=q3
      obtain⟨m',hm,w3⟩:=hN σ3 H3 n3
      exact⟨m',hm,σ3,H3,I3,w3⟩
    | brk=>exact q3
    | ret v=>exact q3
  | false =>
    rw [if_neg Bool.false_ne_true]
    exact wpAny_execs_nil ⟨σ1,H2,I2,q2⟩
end
structure It where
  go:Nat->Hp->Prop
  yld:Nat->Hp->V->Hp->Prop
  stop:Nat->Hp->Prop
noncomputable def tF (X:Cx) (pins:List (Addr × Obj)) (H:Hp) (b:Addr):Prop :=
  H b=none /\ b ≠ X.env.locals /\ b ∉ X.fs /\ (b ∈ X.ex \/ X.s₀.heap.objs.size <= b) /\ (∀ x c,X.env.cells.lookup x=some c->c ≠ b) /\ ∀ p ∈ X.pn ++ pins,p.1 ≠ b
theorem Inv.fpOk {X:Cx}{pins:List (Addr × Obj)}{σ:St}{H H':Hp}{s:Shared}{b:Addr}(I:Inv X pins σ H s) (hb:s.heap.objs.size <= b) (hn:H' b=none):tF X pins H' b:=by
  refine⟨hn,Nat.ne_of_gt (Nat.lt_of_lt_of_le I.lt hb),I.nofs hb,.inr (Nat.le_trans I.sz hb),fun x c e z=>?_,fun p hp z=>?_⟩
  . obtain⟨v,q⟩:=I.cell x c e
    exact absurd (Nat.lt_of_lt_of_le q.lt (by rw [z];exact hb)) (Nat.lt_irrefl _)
  . exact absurd (Nat.lt_of_lt_of_le (Heap.lt_size (I.pin p hp).1) (by rw [z];exact hb)) (Nat.lt_irrefl _)
structure vV (P:Program) (w:World) (K:Frag) (tg:Expr) (J:It) (fp:List Addr) (it:Addr) (tn:Nat->Heap->Prop):Prop where
  mem:it ∈ fp
  obj:∀ i h,tn i h->∀ b ∈ fp,∃ o,h.get? b=some o /\ ∀ v,o.data ≠ .cell v
  keep:∀ i h h',tn i h->(∀ b ∈ fp,∀ o,h.get? b=some o->h'.get? b=some o)->tn i h'
  item:∀ (X:Cx),X.prog=P->X.w=w->X.K=K->X.calm=true->∀ (i:Nat) (pins:List (Addr × Obj)) (s:Shared) (σ:St) (H:Hp) (E:Value->Shared->Prop),Inv X pins σ H s->(∀ b ∈ fp,tF X pins H b)->tn i s.heap->J.go i H ->
    wpAny (model P w) X.A (pyNext (.ref it)) (fun r s1=>∃ u,r=some u /\
      wpAny (model P w) X.A (letOwnedTupleGo tg (.ref it) u) (fun _ s2=>∃ x H',Inv X pins σ H' s2 /\ RelV x u /\ J.yld i H x H' /\ tn (i + 1) s2.heap /\ ∀ b ∈ fp,H' b=none) E s1) E s
  done:∀ (X:Cx),X.prog=P->X.w=w->X.K=K->X.calm=true->∀ (i:Nat) (pins:List (Addr × Obj)) (s:Shared) (σ:St) (H:Hp) (E:Value->Shared->Prop),Inv X pins σ H s->(∀ b ∈ fp,tF X pins H b)->tn i s.heap->J.stop i H ->
    wpAny (model P w) X.A (pyNext (.ref it)) (fun r s1=>r=none /\ Inv X pins σ H s1) E s
  self:∀ (A:Around) (i:Nat) (s:Shared) (Q:Value->Shared->Prop) (E:Value->Shared->Prop),tn i s.heap->Q (.ref it) s->wpAny (model P w) A (pyIter (.ref it)) Q E s
noncomputable abbrev TI:=St->Hp->(It->Hp->Prop)->Prop
noncomputable def PIE (X:Cx) (pins:List (Addr × Obj)) (σ:St) (tg:Expr) (R:It->Hp->Prop) (itv:Value) (s2:Shared):Prop :=
  ∃ (it:Addr) (fp:List Addr) (tn:Nat->Heap->Prop) (J:It) (H':Hp),itv=.ref it /\ Inv X pins σ H' s2 /\ vV X.prog X.w X.K tg J fp it tn /\ tn 0 s2.heap /\ (∀ b ∈ fp,tF X pins H' b) /\ R J H'
noncomputable def PI (X:Cx) (tg iter:Expr) (wi:TI):Prop :=
  ∀ (pins:List (Addr × Obj)) (s:Shared) (σ:St) (H:Hp) (R:It->Hp->Prop),Inv X pins σ H s->wi σ H R ->
    wpAny (model X.prog X.w) X.A (eval iter X.env) (fun v s1=>wpAny (model X.prog X.w) X.A (pyIter v) (PIE X pins σ tg R) X.xe s1) X.xe s
theorem xO {M:Model}{A:Around}{E:Value->Shared->Prop}{s:Shared}{tg:Expr}{it:Addr}{u:Value}{o:Obj}{n:String}{vs:Array Value}{Q:Unit->Shared->Prop}(ho:s.heap.get? it=some o) (hc:o.cls=.type n) (hd:o.data=.fields vs)
    (hn:["enumerate","zip","dict_itemiterator","dict_reverseitemiterator","odict_iterator","itertools.zip_longest","itertools.pairwise"].contains n=false) (hQ:Q () s):wpAny M A (letOwnedTupleGo tg (.ref it) u) Q E s:=by
  unfold letOwnedTupleGo
  cases tg <;> first
    | exact wpAny_pure hQ
    | (cases u <;> first
        | exact wpAny_pure hQ
        | (refine wpAny_bind (wpAny_load ho ?_)
           rw [hc,hd]
           show wpAny M A (if (["enumerate","zip","dict_itemiterator","dict_reverseitemiterator","odict_iterator","itertools.zip_longest","itertools.pairwise"].contains n && vs[0]? == some (rawInt _))=true then _ else _) Q E s
           rw [if_neg (by intro h;rw [hn,Bool.false_and] at h;cases h)]
           exact wpAny_pure hQ))
noncomputable def Itl (K:Frag) (a:Addr):It :=
  ⟨fun i H=>∃ xs x,SqL K H a xs /\ xs[i]? = some x,fun i H x H'=>H'=H /\ ∀ xs,SqL K H a xs->xs[i]? = some x,fun i H=>∃ xs,SqL K H a xs /\ xs.length <= i⟩
noncomputable def Itt (K:Frag) (a:Addr):It :=
  ⟨fun i H=>∃ xs x,SqT K H a xs /\ xs[i]? = some x,fun i H x H'=>H'=H /\ ∀ xs,SqT K H a xs->xs[i]? = some x,fun i H=>∃ xs,SqT K H a xs /\ xs.length <= i⟩
noncomputable def Itr (lo:Int) (n:Nat):It:=⟨fun i _=>i < n,fun i H x H'=>H'=H /\ x=.int (lo + i),fun i _=>n <= i⟩
theorem K0 {P:Program}{w:World}{K:Frag}{tg:Expr}(a it:Addr):vV P w K tg (Itl K a) [it] it (fun i h=>h.IsListIter it a i) where
  mem:=by simp
  obj:=fun i h st b hb=>by
    have e:b=it:=by simpa using hb
    subst e
    obtain⟨o,e,c,d⟩:=st
    exact⟨o,e,fun v z=>by rw [d] at z;cases z⟩
  keep:=fun i h h' st k=>st.at fun o e=>k it (by simp) o e
  item:=by
    intro X hP hw hK hc i pins s σ H E I hf st hg
    subst hP hw hK
    obtain⟨xs,x,hq,hx⟩:=hg
    obtain⟨its,rv,p,hz⟩:=I.list hq
    obtain⟨u,hu,ru⟩:=rv.get hx
    obtain⟨f0,f1,f2,f3,f4,f5⟩:=hf it (by simp)
    refine wpAny_pyNext_list_item st p.isList (x:=u) (by simpa using hu) fun h' st' sb=>?_
    have I1:Inv X pins σ H { s with heap:=h' }:=I.turned (t':=s.toks) (fun b o hb e=>(sb.2 b hb).trans e) f0 f1 f3 f4 f5
    obtain⟨o,e,c,d⟩:=id st'
    exact⟨u,rfl,xO (s:={ s with heap:=h' }) e c d (by decide) ⟨x,H,I1,ru,⟨rfl,fun ys hy=>by rw [I.list_inj hy hq];exact hx⟩,st',fun b hb=>(hf b hb).1⟩⟩
  done:=by
    intro X hP hw hK hc i pins s σ H E I hf st hg
    subst hP hw hK
    obtain⟨xs,hq,hx⟩:=hg
    obtain⟨its,rv,p,hz⟩:=I.list hq
    obtain⟨f0,f1,f2,f3,f4,f5⟩:=hf it (by simp)
    have hl:=rv.length
    exact wpAny_pyNext_list_end (I.ok.hd hc) st p.isList (by simp;omega) fun h' eb=>⟨rfl,I.turned (t':=s.toks) (fun b o hb e=>eb b o hb e) f0 f1 f3 f4 f5⟩
  self:=fun _ _ _ _ _ st h=>wpAny_pyIter_listiter st h
theorem yR {P:Program}{w:World}{K:Frag}{tg:Expr}(a it:Addr):vV P w K tg (Itt K a) [it] it (fun i h=>h.IsTupleIter it a i) where
  mem:=by simp
  obj:=fun i h st b hb=>by
    have e:b=it:=by simpa using hb
    subst e
    obtain⟨o,e,c,d⟩:=st
    exact⟨o,e,fun v z=>by rw [d] at z;cases z⟩
  keep:=fun i h h' st k=>st.at fun o e=>k it (by simp) o e
  item:=by
    intro X hP hw hK hc i pins s σ H E I hf st hg
    subst hP hw hK
    obtain⟨xs,x,hq,hx⟩:=hg
    obtain⟨its,rv,p,hz⟩:=I.tuple hq
    obtain⟨u,hu,ru⟩:=rv.get hx
    obtain⟨f0,f1,f2,f3,f4,f5⟩:=hf it (by simp)
    refine wpAny_pyNext_tuple_item st (show s.heap.IsTuple a its.toArray from p) (x:=u) (by simpa using hu) fun h' st' sb=>?_
    have I1:Inv X pins σ H { s with heap:=h' }:=I.turned (t':=s.toks) (fun b o hb e=>(sb.2 b hb).trans e) f0 f1 f3 f4 f5
    obtain⟨o,e,c,d⟩:=id st'
    exact⟨u,rfl,xO (s:={ s with heap:=h' }) e c d (by decide) ⟨x,H,I1,ru,⟨rfl,fun ys hy=>by rw [I.tuple_inj hy hq];exact hx⟩,st',fun b hb=>(hf b hb).1⟩⟩
  done:=by
    intro X hP hw hK hc i pins s σ H E I hf st hg
    subst hP hw hK
    obtain⟨xs,hq,hx⟩:=hg
    obtain⟨its,rv,p,hz⟩:=I.tuple hq
    obtain⟨f0,f1,f2,f3,f4,f5⟩:=hf it (by simp)
    have hl:=rv.length
    exact wpAny_pyNext_tuple_end (I.ok.hd hc) st (show s.heap.IsTuple a its.toArray from p) (by simp;omega) fun h' eb=>⟨rfl,I.turned (t':=s.toks) (fun b o hb e=>eb b o hb e) f0 f1 f3 f4 f5⟩
  self:=fun _ _ _ _ _ st h=>wpAny_pyIter_tupleiter st h
theorem yS {P:Program}{w:World}{K:Frag}{tg:Expr}(it:Addr) (lo:Int) (n:Nat):vV P w K tg (Itr lo n) [it] it (fun i h=>IsRangeIter h it (lo + (i:Nat) * 1) ((n:Int) - (i:Nat)) 1) where
  mem:=by simp
  obj:=fun i h st b hb=>by
    have e:b=it:=by simpa using hb
    subst e
    exact⟨_,st,fun v z=>by
      have z':Data.fields _=Data.cell v:=z
      cases z'⟩
  keep:=fun i h h' st k=>k it (by simp) _ st
  item:=by
    intro X hP hw hK hc i pins s σ H E I hf st hg
    subst hP hw hK
    obtain⟨f0,f1,f2,f3,f4,f5⟩:=hf it (by simp)
    have W:=Walks.range (prog:=X.prog) (w:=X.w) (I.ok.hd hc) it lo 1 n
    refine W.item i s _ _ hg st fun v h' tk hv st' kk=>?_
    obtain⟨t,rfl⟩:=hv
    have I1:Inv X pins σ H { s with heap:=h',toks:=tk }:=I.turned (fun b o hb e=>kk b o (by simpa using hb) e) f0 f1 f3 f4 f5
    refine⟨_,rfl,xO (s:={ s with heap:=h',toks:=tk }) (n := "range_iterator") st' rfl rfl (by decide) ⟨.int (lo + i),H,I1,⟨t,?_⟩,⟨rfl,rfl⟩,st',fun b hb=>(hf b hb).1⟩⟩
    rw [Int.mul_one]
  done:=by
    intro X hP hw hK hc i pins s σ H E I hf st hg
    subst hP hw hK
    obtain⟨f0,f1,f2,f3,f4,f5⟩:=hf it (by simp)
    exact wpAny_pyNext_range_end (I.ok.hd hc) st (by have:n <= i:=hg;omega) fun h' eb=>⟨rfl,I.turned (t':=s.toks) (fun b o hb e=>eb b o hb e) f0 f1 f3 f4 f5⟩
  self:=fun _ _ _ _ _ st h=>wpAny_pyIter_rangeiter st h
section
variable {X:Cx}{tg:Expr}
noncomputable def Z3t (K:Frag) (tl:TE):TI:=fun σ H R=>tl σ H fun x H1=>∃ a,x=.ref a /\ (∃ xs,SqL K H1 a xs) /\ R (Itl K a) H1
noncomputable def Z4b (K:Frag) (tl:TE):TI:=fun σ H R=>tl σ H fun x H1=>∃ a,x=.ref a /\ (∃ xs,SqT K H1 a xs) /\ R (Itt K a) H1
theorem Z0Y {l:Expr}{tl:TE}(hl:PE X l tl):PI X tg l (Z3t X.K tl):=by
  intro pins s σ H R I h
  refine thn (hl pins s σ H _ I h) fun v s1 ⟨x,H1,I1,r1,q1⟩=>?_
  obtain⟨a,e,⟨xs,hq⟩,q⟩:=q1
  subst e
  cases r1
  obtain⟨its,rv,p,hz⟩:=I1.list hq
  refine wpAny_pyIter_list p.isList ?_
  refine⟨s1.heap.objs.size,[s1.heap.objs.size],_,_,H1,rfl,I1.kept (t':=s1.toks) fun b o e=>Heap.get?_push_of_some _ e,K0 a _,⟨_,Heap.get?_push_size _ rfl,rfl,rfl⟩,fun b hb=>?_,q⟩
  have e:b=s1.heap.objs.size:=by simpa using hb
  subst e
  exact I1.fpOk (Nat.le_refl _) (I1.hok.fresh (Nat.le_refl _))
theorem Z2i {l:Expr}{tl:TE}(hl:PE X l tl):PI X tg l (Z4b X.K tl):=by
  intro pins s σ H R I h
  refine thn (hl pins s σ H _ I h) fun v s1 ⟨x,H1,I1,r1,q1⟩=>?_
  obtain⟨a,e,⟨xs,hq⟩,q⟩:=q1
  subst e
  cases r1
  obtain⟨its,rv,p,hz⟩:=I1.tuple hq
  refine wpAny_pyIter_tuple (show s1.heap.IsTuple a its.toArray from p) ?_
  refine⟨s1.heap.objs.size,[s1.heap.objs.size],_,_,H1,rfl,I1.kept (t':=s1.toks) fun b o e=>Heap.get?_push_of_some _ e,yR a _,⟨_,Heap.get?_push_size _ rfl,rfl,rfl⟩,fun b hb=>?_,q⟩
  have e:b=s1.heap.objs.size:=by simpa using hb
  subst e
  exact I1.fpOk (Nat.le_refl _) (I1.hok.fresh (Nat.le_refl _))
theorem U2 {pins:List (Addr × Obj)}{σ:St}{H:Hp}{s:Shared}{R:It->Hp->Prop}{E:Value->Shared->Prop}{lo hi:Int}{t u v:Tok}{tk:Nat}(I:Inv X pins σ H s) (h1:-(2 ^ 62) <= lo) (h2:lo < 2 ^ 62) (h3:-(2 ^ 62) <= hi) (h4:hi < 2 ^ 62)
    (q:R (Itr lo (hi - lo).toNat) H):wpAny (model X.prog X.w) X.A (pyIter (.ref s.heap.objs.size)) (PIE X pins σ tg R) E { s with heap:=s.heap.push { cls:=.type "range",data:=.fields #[.int lo t,.int hi u,.int 1 v] },toks:=tk }:=by
  refine wpAny_pyIter_range (IsRange.new ..) (small_one h1 h2 h3 h4) ?_
  have I1:Inv X pins σ H { s with heap:=s.heap.push { cls:=.type "range",data:=.fields #[.int lo t,.int hi u,.int 1 v] },toks:=tk }:=I.kept fun b o e=>Heap.get?_push_of_some _ e
  refine⟨(s.heap.push { cls:=.type "range",data:=.fields #[.int lo t,.int hi u,.int 1 v] }).objs.size,[(s.heap.push { cls:=.type "range",data:=.fields #[.int lo t,.int hi u,.int 1 v] }).objs.size],_,_,H,rfl,
    I1.kept (t':=tk) fun b o e=>Heap.get?_push_of_some _ e,yS _ lo (hi - lo).toNat,?_,fun b hb=>?_,q⟩
  . have e1:lo + ((0:Nat):Int) * 1=lo:=by simp
    have e2:(((hi - lo).toNat:Nat):Int) - ((0:Nat):Int)=Builtin.Range.rangeSize lo hi 1:=by rw [rangeSize_one];split <;> omega
    show IsRangeIter _ _ (lo + ((0:Nat):Int) * 1) ((((hi - lo).toNat:Nat):Int) - ((0:Nat):Int)) 1
    rw [e1,e2]
    exact Heap.get?_push_size _ rfl
  . have e:b=(s.heap.push { cls:=.type "range",data:=.fields #[.int lo t,.int hi u,.int 1 v] }).objs.size:=by simpa using hb
    subst e
    exact I1.fpOk (Nat.le_refl _) (I1.hok.fresh (Nat.le_refl _))
noncomputable def Z3s (ta:TA):TI:=fun σ H R=>ta σ H fun vs H1=>∃ j:Int,vs=[.int j] /\ -(2 ^ 62) <= j /\ j < 2 ^ 62 /\ R (Itr 0 j.toNat) H1
theorem N0 {a:Expr}{ta:TA}{p pos:Pos}(hg:Gl X "range") (hm:X.mg "range" = none) (ha:PA X [a] ta) (hs:starEach [a] X.env=[(false,eval a X.env)]:=by rfl):PI X tg (.Call (.Name "range" p) [a] [] pos) (Z3s ta):=by
  intro pins s σ H R I h
  refine Call_ (nF I hg hm boot_range (PyProof.Rows.callWith_type1 (thn (ha pos pins s σ H _ I h) fun us s1 ⟨vs,H1,I1,r1,q1⟩=>?_) hs rfl))
  obtain⟨j,e,q1,q2,q⟩:=q1
  subst e
  cases r1 with
  | cons r rr =>
    cases rr
    obtain⟨t,rfl⟩:=r
    exact call_range_1 (U2 I1 (by omega) (by omega) q1 q2 (by simpa using q))
noncomputable def Z3Q (wi:TI) (g:TG) (tb:TS):TS:=fun D σ H=>wi σ H fun J H1=>∃ W:Nat->Nat->St->Hp->Prop,(∃ m,W 0 m σ H1) /\ ∀ i m σ H,W i m σ H ->
  (J.stop i H /\ D.nx σ H) \/ (J.go i H /\ ∃ N:St->Hp->Prop,(∀ σ' H',N σ' H'->∃ m',m' < m /\ W (i + 1) m' σ' H') /\ ∀ x H',J.yld i H x H'->g x σ H' fun σ2 H2=>tb { D with nx:=N,ct:=N,bk:=D.nx } σ2 H2)
noncomputable def rJ (fp:List Addr) (h:Heap):List (Addr × Obj):=fp.filterMap fun b=>(h.get? b).map fun o=>(b,o)
theorem lD {fp:List Addr}{h:Heap}{b:Addr}{o:Obj}(hb:b ∈ fp) (e:h.get? b=some o):(b,o) ∈ rJ fp h:=List.mem_filterMap.mpr ⟨b,hb,by rw [e];rfl⟩
theorem N7 {fp:List Addr}{h:Heap}{p:Addr × Obj}(hp:p ∈ rJ fp h):p.1 ∈ fp /\ h.get? p.1=some p.2:=by
  obtain⟨b,hb,e⟩:=List.mem_filterMap.mp hp
  cases q:h.get? b with
  | none=>rw [q] at e;cases e
  | some o =>
    rw [q] at e
    have e':(b,o)=p:=Option.some.inj e
    subst e'
    exact⟨hb,q⟩
theorem Inv.pinned {pins:List (Addr × Obj)}{σ:St}{H:Hp}{s:Shared}{fp:List Addr}(I:Inv X pins σ H s) (hf:∀ b ∈ fp,tF X pins H b) (ho:∀ b ∈ fp,∃ o,s.heap.get? b=some o /\ ∀ v,o.data ≠ .cell v):Inv X (pins ++ rJ fp s.heap) σ H s :=
  I.pins_of fun p hp=>(List.mem_append.mp hp).elim (fun z=>I.pin p (List.mem_append_right _ z)) fun z=>by
    obtain⟨hb,e⟩:=N7 z
    obtain⟨f0,f1,f2,_⟩:=hf p.1 hb
    obtain⟨o,e',d⟩:=ho p.1 hb
    rw [e] at e';cases e'
    exact⟨e,f0,f1,f2,d⟩
theorem Inv.unpinned {pins pl:List (Addr × Obj)}{σ:St}{H:Hp}{s:Shared}(I:Inv X (pins ++ pl) σ H s):Inv X pins σ H s:=I.pins_of fun p hp=>I.pin p (List.mem_append_right _ (List.mem_append_left _ hp))
theorem Z2g {iter:Expr}{body:List Stmt}{wi:TI}{g:TG}{tb:TS}{pos:Pos}(hp:PassesOwn (model X.prog X.w) X.A X.env X.xe) (hc:X.calm=true) (hi:PI X tg iter wi) (hg:PG X tg g) (hb:PSs X body tb)
    (hs:∀ x,foldedSetIterable iter X.env x=pure x:=by intro _;rfl):PS X (.For tg iter body [] pos) (Z3Q wi g tb):=by
  intro pins s σ H D I h
  refine wpAny_For (thn (hi pins s σ H _ I h) fun v s1 h1=>thn h1 fun itv s2 h2=>?_) hs
  obtain⟨it,fp,tn,J,H2,e,I2,T,st2,f2,W,⟨m0,w0⟩,turn⟩:=h2
  subst e
  -- what stays true of the iterator's objects through the loop
  have stat:∀ {H':Hp},(∀ b ∈ fp,H' b=none)->∀ b ∈ fp,tF X pins H' b:=fun hn b hb=>⟨hn b hb,(f2 b hb).2⟩
  refine codeAny_forLoop_any (fun n s'=>∃ i σ' H',Inv X pins σ' H' s' /\ tn i s'.heap /\ (∀ b ∈ fp,H' b=none) /\ W i n σ' H') ?_ m0 ⟨0,σ,H2,I2,st2,fun b hb=>(f2 b hb).1,w0⟩
  rintro n s3 ⟨i,σ3,H3,I3,st3,fr3,w3⟩
  rcases turn i n σ3 H3 w3 with ⟨stop,qn⟩ | ⟨go,N,hN,step⟩
  . refine wpAny_passesOwn hp (thn (T.done X rfl rfl rfl hc i pins s3 σ3 H3 X.xe I3 (stat fr3) st3 stop) fun r s4 ⟨hr,I4⟩=>?_)
    subst hr
    exact wpAny_execs_nil ⟨σ3,H3,I4,qn⟩
  . refine wpAny_passesOwn hp (thn (T.item X rfl rfl rfl hc i pins s3 σ3 H3 X.xe I3 (stat fr3) st3 go) fun r s4 ⟨u,hr,h4⟩=>?_)
    subst hr
    refine wpAny_passesOwn hp (thn h4 fun _ s5 ⟨x,H5,I5,r5,y5,st5,fr5⟩=>?_)
    have I5':=I5.pinned (stat fr5) (T.obj _ _ st5)
    refine wpAny_passesOwn hp (thn (hg _ s5 σ3 H5 x u _ I5' r5 (step x H5 y5)) fun _ s6 ⟨σ6,H6,I6,q6⟩=>?_)
    refine wpAny_passesOwn hp (thn (hb _ s6 σ6 H6 _ I6 q6) fun f s7 q7=>?_)
    have again:∀ {σ7:St}{H7:Hp},Inv X (pins ++ rJ fp s5.heap) σ7 H7 s7->N σ7 H7->∃ m,m < n /\ ∃ i σ' H',Inv X pins σ' H' s7 /\ tn i s7.heap /\ (∀ b ∈ fp,H' b=none) /\ W i m σ' H':=fun {σ7 H7} I7 n7=>by
      obtain⟨m',hm,w7⟩:=hN σ7 H7 n7
      refine⟨m',hm,i + 1,σ7,H7,I7.unpinned,T.keep _ _ _ st5 fun b hb o e=>(I7.pin (b,o) (List.mem_append_right _ (List.mem_append_right _ (lD hb e)))).1,fun b hb=>?_,w7⟩
      obtain⟨o,e,d⟩:=T.obj _ _ st5 b hb
      exact (I7.pin (b,o) (List.mem_append_right _ (List.mem_append_right _ (lD hb e)))).2.1
    cases f with
    | next=>obtain⟨σ7,H7,I7,n7⟩:=q7;exact again I7 n7
    | cont=>obtain⟨σ7,H7,I7,n7⟩:=q7;exact again I7 n7
    | brk=>obtain⟨σ7,H7,I7,q7⟩:=q7;exact⟨σ7,H7,I7.unpinned,q7⟩
    | ret v=>obtain⟨x7,σ7,H7,I7,r7,q7⟩:=q7;exact⟨x7,σ7,H7,I7.unpinned,r7,q7⟩
end
noncomputable abbrev R2:=V->V->Hp->VK->Prop
noncomputable def OpR (X:Cx) (f:Value->Value->Sem Value) (r:R2):Prop :=
  ∀ (pins:List (Addr × Obj)) (s:Shared) (σ:St) (H:Hp) (x y:V) (v u:Value) (Q:VK),Inv X pins σ H s->RelV x v->RelV y u->r x y H Q ->
    wpAny (model X.prog X.w) X.A (f v u) (EP X pins σ Q) X.xe s
noncomputable def UnR (X:Cx) (f:Value->Sem Value) (r:V->Hp->VK->Prop):Prop :=
  ∀ (pins:List (Addr × Obj)) (s:Shared) (σ:St) (H:Hp) (x:V) (v:Value) (Q:VK),Inv X pins σ H s->RelV x v->r x H Q ->
    wpAny (model X.prog X.w) X.A (f v) (EP X pins σ Q) X.xe s
noncomputable def CallR (X:Cx) (f:Value) (r:List V->Hp->VK->Prop):Prop :=
  ∀ (pins:List (Addr × Obj)) (s:Shared) (σ:St) (H:Hp) (xs:List V) (us:List Value) (Q:VK),Inv X pins σ H s->Vals xs us->r xs H Q ->
    wpAny (model X.prog X.w) X.A (call f us) (EP X pins σ Q) X.xe s
noncomputable def tOp (r:R2) (ta tb:TE):TE:=fun σ H Q=>ta σ H fun x H1=>tb σ H1 fun y H2=>r x y H2 Q
noncomputable def tUn (r:V->Hp->VK->Prop) (ta:TE):TE:=fun σ H Q=>ta σ H fun x H1=>r x H1 Q
noncomputable def rI (C:Int->Int->Prop) (g:Int->Int->V):R2:=fun x y H Q=>∃ i j,x=.int i /\ y=.int j /\ C i j /\ Q (g i j) H
noncomputable def rI0 (g:Int->Int->V):R2:=fun x y H Q=>∃ i j,x=.int i /\ y=.int j /\ Q (g i j) H
noncomputable def rU (g:Int->V):V->Hp->VK->Prop:=fun x H Q=>∃ i,x=.int i /\ Q (g i) H
section
variable {X:Cx}{a b c:Expr}{ta tb tc:TE}{pos:Pos}
theorem Z2H (ha:PE X a ta) (hb:PE X b tb) {pins:List (Addr × Obj)}{s:Shared}{σ:St}{H:Hp}{R:V->V->Hp->Prop}(I:Inv X pins σ H s)
    (h:ta σ H fun x H1=>tb σ H1 fun y H2=>R x y H2) {Q:Value->Shared->Prop}{f:Value->Value->Sem Value}
    (hf:∀ v u s2 x y H2,Inv X pins σ H2 s2->RelV x v->RelV y u->R x y H2->wpAny (model X.prog X.w) X.A (f v u) Q X.xe s2) :
    wpAny (model X.prog X.w) X.A (eval a X.env) (fun v s₁=>wpAny (model X.prog X.w) X.A (eval b X.env) (fun u s₂=>wpAny (model X.prog X.w) X.A (f v u) Q X.xe s₂) X.xe s₁) X.xe s:=by
  refine thn (ha pins s σ H _ I h) fun v s1 ⟨x,H1,I1,r1,q1⟩=>?_
  refine thn (hb pins s1 σ H1 _ I1 q1) fun u s2 ⟨y,H2,I2,r2,q2⟩=>?_
  exact hf v u s2 x y H2 I2 r1 r2 q2
theorem pe_op {op:Operator}{r:R2}(ho:OpR X (binaryOp op) r) (ha:PE X a ta) (hb:PE X b tb):PE X (.BinOp a op b pos) (tOp r ta tb):=by
  intro pins s σ H Q I h
  exact wpAny_BinOp (Z2H ha hb I h fun v u s2 x y H2 I2 rx ry q=>ho pins s2 σ H2 x y v u Q I2 rx ry q)
theorem Z3f {op:UnaryOp}{r:V->Hp->VK->Prop}(ho:UnR X (unaryOp op) r) (ha:PE X a ta):PE X (.UnaryOp op a pos) (tUn r ta):=by
  intro pins s σ H Q I h
  exact UnaryOp_ (thn (ha pins s σ H _ I h) fun v s1 ⟨x,H1,I1,r1,q1⟩=>ho pins s1 σ H1 x v Q I1 r1 q1)
theorem opI {f:Value->Value->Sem Value}{C:Int->Int->Prop}{g:Int->Int->Int}
    (rule:∀ (i j:Int) (t u:Tok) (s:Shared) (Q:Value->Shared->Prop) (E:Value->Shared->Prop),C i j->Q (.int (g i j) s.toks) { s with toks:=s.toks + 1 }->wpAny (model X.prog X.w) X.A (f (.int i t) (.int j u)) Q E s) :
    OpR X f (rI C fun i j=>.int (g i j)):=by
  intro pins s σ H x y v u Q I rx ry h
  obtain⟨i,j,rfl,rfl,hc,q⟩:=h
  obtain⟨t,rfl⟩:=rx
  obtain⟨t',rfl⟩:=ry
  exact rule i j t t' s _ _ hc ⟨.int (g i j),H,I.tok _,⟨_,rfl⟩,q⟩
theorem X2 {f:Value->Value->Sem Value}{g:Int->Int->Int}
    (rule:∀ (i j:Int) (t u:Tok) (s:Shared) (Q:Value->Shared->Prop) (E:Value->Shared->Prop),Q (.int (g i j) s.toks) { s with toks:=s.toks + 1 }->wpAny (model X.prog X.w) X.A (f (.int i t) (.int j u)) Q E s) :
    OpR X f (rI0 fun i j=>.int (g i j)):=by
  intro pins s σ H x y v u Q I rx ry h
  obtain⟨i,j,rfl,rfl,q⟩:=h
  obtain⟨t,rfl⟩:=rx
  obtain⟨t',rfl⟩:=ry
  exact rule i j t t' s _ _ ⟨.int (g i j),H,I.tok _,⟨_,rfl⟩,q⟩
theorem Z12 {f:Value->Value->Sem Value}{g:Int->Int->Bool}
    (rule:∀ (i j:Int) (t u:Tok) (s:Shared) (Q:Value->Shared->Prop) (E:Value->Shared->Prop),Q (.bool (g i j)) s->wpAny (model X.prog X.w) X.A (f (.int i t) (.int j u)) Q E s) :
    OpR X f (rI0 fun i j=>.bl (g i j)):=by
  intro pins s σ H x y v u Q I rx ry h
  obtain⟨i,j,rfl,rfl,q⟩:=h
  obtain⟨t,rfl⟩:=rx
  obtain⟨t',rfl⟩:=ry
  exact rule i j t t' s _ _ ⟨.bl (g i j),H,I,rfl,q⟩
noncomputable def Z1x (i j:Int):Prop:=0 <= j /\ j <= 1000000 /\ i.natAbs < 2 ^ 64
noncomputable def CMul (i j:Int):Prop:=(-(2 ^ 64) < i /\ i < 2 ^ 64) \/ (-(2 ^ 64) < j /\ j < 2 ^ 64)
theorem CMul.ok {i j:Int}(h:CMul i j):IntMulOk i j:=by
  rcases h with ⟨h1,h2⟩ | ⟨h1,h2⟩
  . exact .of_left (intBits_le_64 h1 h2)
  . exact .of_right (intBits_le_64 h1 h2)
theorem yQ (k:Nat):(0:Int) <= 2 ^ k:=by
  rw [two_pow_cast]
  exact Int.natCast_nonneg _
theorem fY:OpR X (binaryOp .Add) (rI0 fun i j=>.int (i + j)):=X2 fun _ _ _ _ _ _ _ q=>add_int q
theorem eN:OpR X (binaryOp .Sub) (rI0 fun i j=>.int (i - j)):=X2 fun _ _ _ _ _ _ _ q=>sub_int q
theorem eV:OpR X (binaryOp .Mod) (rI (fun _ j=>0 < j) fun i j=>.int (i % j)):=opI fun i j _ _ _ _ _ hc q=>by
  have h1:(0:Int) < j:=hc
  exact mod_int' (by omega) (by rw [Int.fmod_eq_emod_of_nonneg i (by omega)];exact q)
theorem W7:OpR X (binaryOp .Pow) (rI Z1x fun i j=>.int (i ^ j.toNat)):=opI fun _ _ _ _ _ _ _ hc q=>pow_int_small hc.1 hc.2.1 hc.2.2 q
theorem W6:OpR X (binaryOp .RShift) (rI (fun _ j=>0 <= j) fun i j=>.int (i / 2 ^ j.toNat)):=opI fun i j _ _ _ _ _ hc q =>
  rshift_int hc (by rw [Int.fdiv_eq_ediv_of_nonneg i (yQ _)];exact q)
theorem rL:OpR X (binaryOp .BitAnd) (rI0 fun i j=>.int (Builtin.bitAnd i j)):=X2 fun _ _ _ _ _ _ _ q=>and_int q
theorem wX:OpR X (binaryOp .BitOr) (rI0 fun i j=>.int (Builtin.bitOr i j)):=X2 fun _ _ _ _ _ _ _ q=>or_int q
theorem oN:OpR X (binaryOp .BitXor) (rI0 fun i j=>.int (Builtin.bitXor i j)):=X2 fun _ _ _ _ _ _ _ q=>xor_int q
theorem unI {f:Value->Sem Value}{g:Int->Int}
    (rule:∀ (i:Int) (t:Tok) (s:Shared) (Q:Value->Shared->Prop) (E:Value->Shared->Prop),Q (.int (g i) s.toks) { s with toks:=s.toks + 1 }->wpAny (model X.prog X.w) X.A (f (.int i t)) Q E s) :
    UnR X f (rU fun i=>.int (g i)):=by
  intro pins s σ H x v Q I rx h
  obtain⟨i,rfl,q⟩:=h
  obtain⟨t,rfl⟩:=rx
  exact rule i t s _ _ ⟨.int (g i),H,I.tok _,⟨_,rfl⟩,q⟩
theorem Z1R:UnR X (unaryOp .USub) (rU fun i=>.int (-i)):=unI fun _ _ _ _ _ q=>neg_int q
end
section
variable {X:Cx}{a b c:Expr}{ta tb tc:TE}{pos:Pos}
theorem Z2D {pins:List (Addr × Obj)}{σ:St}{H:Hp}{s:Shared}{Q:VK}{k k':Bool}(I:Inv X pins σ H s) (q:Q (.bl k) H) (e:k=k'):EP X pins σ Q (.bool k') s:=by
  subst e
  exact⟨.bl k,H,I,rfl,q⟩
theorem Z3i:OpR X (compareOp .Lt) (rI0 fun i j=>.bl (decide (i < j))):=Z12 fun _ _ _ _ _ _ _ q=>lt_int q
theorem Z3j:OpR X (compareOp .LtE) (rI0 fun i j=>.bl (decide (i <= j))):=Z12 fun _ _ _ _ _ _ _ q=>le_int q
theorem W9:OpR X (compareOp .Gt) (rI0 fun i j=>.bl (decide (j < i))):=Z12 fun _ _ _ _ _ _ _ q=>gt_int q
theorem Z3k:OpR X (compareOp .GtE) (rI0 fun i j=>.bl (decide (j <= i))):=Z12 fun _ _ _ _ _ _ _ q=>ge_int q
theorem Z11:OpR X (compareOp .IsNot) (fun x y H Q=>y=.non /\ Q (.bl (!decide (x=.non))) H):=by
  intro pins s σ H x y v u Q I rx ry h
  obtain⟨rfl,q⟩:=h
  cases ry
  refine isnot_none_gen (Z2D I q ?_)
  cases x <;> first
    | (cases rx;rfl)
    | (obtain⟨t,rfl⟩:=rx;rfl)
theorem OpR.or {f:Value->Value->Sem Value}{r r':R2}(h:OpR X f r) (h':OpR X f r'):OpR X f (fun x y H Q=>r x y H Q \/ r' x y H Q):=by
  intro pins s σ H x y v u Q I rx ry q
  rcases q with q | q
  . exact h pins s σ H x y v u Q I rx ry q
  . exact h' pins s σ H x y v u Q I rx ry q
theorem jE (b:Expr) {op:CmpOp}(h:op ≠ .In:=by decide) (h2:op ≠ .NotIn:=by decide):behindInMarks op b=false:=by
  have e1:(op == CmpOp.In)=false:=by cases op <;> first | rfl | exact absurd rfl h
  have e2:(op == CmpOp.NotIn)=false:=by cases op <;> first | rfl | exact absurd rfl h2
  cases b <;> simp [behindInMarks,e1,e2]
theorem uX {op:CmpOp}{r:R2}(ho:OpR X (compareOp op) r) (ha:PE X a ta) (hb:PE X b tb) (hm:behindInMarks op b=false):PE X (.Compare a [op] [b] pos) (tOp r ta tb):=by
  intro pins s σ H Q I h
  exact wpAny_Compare1 (Z2H ha hb I h fun v u s2 x y H2 I2 rx ry q=>ho pins s2 σ H2 x y v u Q I2 rx ry q) hm
noncomputable def Z2M (t:TE):TT:=fun σ H Q=>t σ H fun x H'=>∃ k,x=.bl k /\ Q k H'
theorem Z0T {op:CmpOp}{r:R2}(ho:OpR X (compareOp op) r) (ha:PE X a ta) (hb:PE X b tb) (hm:behindInMarks op b=false):PT X (.Compare a [op] [b] pos) (Z2M (tOp r ta tb)):=by
  intro pins s σ H Q I h
  refine wpAny_isTrue_Compare1 (thn (ha pins s σ H _ I h) fun v s1 ⟨x,H1,I1,r1,q1⟩=>thn (hb pins s1 σ H1 _ I1 q1) fun u s2 ⟨y,H2,I2,r2,q2⟩ =>
    thn (ho pins s2 σ H2 x y v u _ I2 r1 r2 q2) fun c s3 ⟨z,H3,I3,r3,k,e,q3⟩=>?_) hm
  subst e
  cases r3
  exact wpAny_truthy_bool ⟨H3,I3,q3⟩
theorem oT:(sizeLine:Nat) < 2 ^ 63:=by rw [sizeLine_eq];decide
theorem mV {x:V}{us:List Value}(r:Vals [x] us):∃ u,us=[u] /\ RelV x u:=by
  cases r with
  | cons r1 r2=>cases r2;exact⟨_,rfl,r1⟩
theorem Z1A {x y:V}{us:List Value}(r:Vals [x,y] us):∃ u w',us=[u,w'] /\ RelV x u /\ RelV y w':=by
  cases r with
  | cons r1 r2 =>
    cases r2 with
    | cons r3 r4=>cases r4;exact⟨_,_,rfl,r1,r3⟩
theorem Q4 (hc:X.calm=true):CallR X (.builtin "min") (fun xs H Q=>∃ i j,xs=[.int i,.int j] /\ Q (.int (if j < i then j else i)) H):=by
  intro pins s σ H xs us Q I r h
  obtain⟨i,j,rfl,q⟩:=h
  obtain⟨u,w',rfl,⟨t,rfl⟩,⟨t',rfl⟩⟩:=Z1A r
  refine min_two_ints (I.ok.hd hc) fun h' tk k=>⟨_,H,I.kept k,?_,q⟩
  by_cases hj:j < i
  . rw [if_pos hj,if_pos hj];exact⟨_,rfl⟩
  . rw [if_neg hj,if_neg hj];exact⟨_,rfl⟩
theorem Q5:CallR X (.type "int") (fun xs H Q=>(∃ i,xs=[.int i] /\ Q (.int i) H) \/ ∃ k,xs=[.bl k] /\ Q (.int (if k then 1 else 0)) H):=by
  intro pins s σ H xs us Q I r h
  rcases h with ⟨i,rfl,q⟩ | ⟨k,rfl,q⟩
  . obtain⟨u,rfl,t,rfl⟩:=mV r
    exact call_int_int ⟨.int i,H,I,⟨_,rfl⟩,q⟩
  . obtain⟨u,rfl,r1⟩:=mV r
    cases r1
    exact call_int_bool ⟨.int (if k then 1 else 0),H,I.tok _,⟨_,rfl⟩,q⟩
end
structure ObjM (h:Heap) (x dx C:Addr) (mA:Str->Option Value):Prop where
  obj:h.get? x=some (PySem.W.instObj C dx)
  ns:h.Ns1 dx mA
  ne:dx ≠ x
theorem O0 {h:Heap}{dx:Addr}{mA:Str->Option Value}(n:h.Ns1 dx mA):∃ od,h.get? dx=some od /\ ∀ name,PySem.W.lookIn name od=some (mA name):=by
  obtain⟨o,es,ep,ho,hd,hk,_,hm⟩:=n
  refine⟨o,ho,fun name=>?_⟩
  have e:=hm name
  unfold nsFind findBy at e
  rw [<- Array.find?_toList] at e
  unfold PySem.W.lookIn
  rw [hd]
  dsimp only
  split
  . rename_i y q
    rw [q] at e
    exact congrArg some e
  . rename_i q
    rw [q] at e
    have a:es.toList.any (·.refKey)=false:=by
      rw [List.any_eq_false]
      intro y hy
      obtain⟨z,t,hkey⟩:=hk y (Array.mem_toList_iff.mp hy)
      simp [DictEntry.refKey,hkey]
    have a':¬ es.toList.any (·.refKey)=true:=by rw [a];exact Bool.false_ne_true
    rw [if_neg a']
    exact congrArg some e
theorem ObjM.look {h:Heap}{x dx C:Addr}{mA:Str->Option Value}(I:ObjM h x dx C mA):∃ od,PySem.W.InstAt h x (PySem.W.instObj C dx) C (some od) /\ ∀ name,PySem.W.lookIn name od=some (mA name) :=
  let ⟨od,ho,hl⟩:=O0 I.ns
  ⟨od,⟨I.obj,rfl,rfl,ho⟩,hl⟩
section
variable {prog:Program}{w:World}{A:Around}{E:Value->Shared->Prop}{s:Shared}{K:Frag}{x dx C f:Addr}{mA:Str->Option Value}{name:Str}{v:Value}
theorem Z1g {expr:Bool}{Q:Value->Shared->Prop}(X:K.In s.heap) (I:ObjM s.heap x dx C mA) (hg:PySem.W.plainGet K C name=true) (hh:PySem.W.hasDictIn K C=true)
    (ha:PySem.W.findIn K (.ref C) name=some none) (hv:mA name=some v) (hv':PySem.W.handedIn v=true) (h:Q v { s with toks:=s.toks + 1 }) :
    wpAny (model prog w) A (getAttr (.ref x) name expr) Q E s:=by
  obtain⟨od,J,hl⟩:=I.look
  exact PySem.W.get_value X J (PySem.W.plainGet_of hg).1 (PySem.W.findObj_own hh ha rfl (by rw [hl,hv])) hv' h
theorem Z0B {ns:List Str}{Q:Unit->Shared->Prop}(X:K.In s.heap) (I:ObjM s.heap x dx C mA)
    (hs:PySem.W.findIn K (.ref C) "__setattr__" = some (some (.builtin "object.__setattr__"))) (hp:PySem.W.plainOver K C=true) (ht:PySem.W.takerIn K C name=some none) (hh:PySem.W.hasDictIn K C=true)
    (hw:PySem.Within mA ns) (hsz:ns.length <= sizeLine)
    (h:∀ h',ObjM h' x dx C (fun y=>if y=name then some v else mA y)->Heap.SameBut dx s.heap h'->Q () { s with heap:=h',toks:=s.toks + 2 }) :
    wpAny (model prog w) A (setAttr (.ref x) name v) Q E s:=by
  obtain⟨od,J,hl⟩:=I.look
  refine PySem.W.set_plain X J hs (PySem.W.osa_open (s:={ s with toks:=s.toks + 1 }) (r:=none) X J hp ht fun b=>?_)
  obtain⟨cd,hc,hd'⟩:=PySem.W.any_some hh
  have hx:s.heap.get? x=some ⟨.ref C,some dx,.plain,#[]⟩:=I.obj
  refine wpAny_bind (wpAny_pure (wpAny_bind (wpAny_bind (wpAny_loadPart hx (wpAny_bind (PySem.W.Looks.here (s:={ s with toks:=s.toks + 1 }) (PySem.W.looks_clsIn X hc) ?_))))))
  rw [hd']
  refine wpAny_pure (a:=some dx) (wpAny_bind (wpAny_pure (wpAny_bind ?_)))
  refine wpAny_nsSet1 (s:={ s with toks:=s.toks + 1 }) I.ns fun h' hn2 hs2=>?_
  obtain⟨oD,esD,epD,hoD,hdD,hcD⟩:=hn2.count (PySem.Within.cons name v hw)
  refine wpAny_bind (wpAny_lookBehind hoD (by rw [hdD];exact pastItsLine_dict (Nat.le_trans hcD (by rw [List.length_cons];omega))) ?_)
  exact wpAny_pure (h _ ⟨(hs2.2 _ (Ne.symm I.ne)).trans I.obj,hn2,I.ne⟩ hs2)
theorem Y0 {R:Result->Shared->Prop}{vs:List Value}{kw:List (Str × Value)}(X:K.In s.heap) (hm:PySem.W.makesIn K C=true)
    (hi:PySem.W.findIn K (.ref C) "__init__" = some (some (.ref f))) (hf:PySem.W.typeIn K (.ref f)=some (.type "function"))
    (h:codeAny (model prog w) (A.under (.builtin "type.__call__" ⟨.ref C :: vs,kw⟩)) (.call (.ref f) ⟨.ref (s.heap.objs.size + 1) :: vs,kw⟩) (PySem.W.InitBack (s.heap.objs.size + 1) R)
      { s with heap:=(s.heap.push PySem.W.emptyDict).push (PySem.W.instObj C s.heap.objs.size) }) :
    codeAny (model prog w) A (.call (.ref C) ⟨vs,kw⟩) R s:=by
  obtain⟨hh,g,d,t,os⟩:=s
  exact PySem.W.make_core (PySem.W.makes_of X hm) (PySem.W.looks_findIn X hi) (fun self=>PySem.W.bind_fn X self hf) (.inl rfl) h
end
noncomputable def kA (f:Str) (v:V):List (Str × V)->List (Str × V)
  | []=>[(f,v)]
  | (g,x) :: r=>if g=f then (g,v) :: r else (g,x) :: kA f v r
theorem pO (f g:Str) (v:V):∀ fs:List (Str × V),(kA f v fs).lookup g=if g=f then some v else fs.lookup g
  | []=>by
    show List.lookup g [(f,v)]=_
    by_cases h:g=f
    . have hb:(g == f)=true:=beq_iff_eq.mpr h
      simp only [List.lookup,hb,if_pos h]
    . have hb:(g == f)=false:=beq_eq_false_iff_ne.mpr h
      simp only [List.lookup,hb,if_neg h]
  | (k,x) :: r=>by
    have ih:=pO f g v r
    rw [show kA f v ((k,x) :: r)=(if k=f then (k,v) :: r else (k,x) :: kA f v r) from rfl]
    by_cases hk:k=f
    . rw [if_pos hk]
      by_cases h:g=k
      . have hb:(g == k)=true:=beq_iff_eq.mpr h
        simp only [List.lookup,hb,if_pos (h.trans hk)]
      . have hb:(g == k)=false:=beq_eq_false_iff_ne.mpr h
        simp only [List.lookup,hb,if_neg (fun e:g=f=>h (e.trans hk.symm))]
    . rw [if_neg hk]
      by_cases h:g=k
      . have hb:(g == k)=true:=beq_iff_eq.mpr h
        simp only [List.lookup,hb,if_neg (fun e:g=f=>hk (h.symm.trans e))]
      . have hb:(g == k)=false:=beq_eq_false_iff_ne.mpr h
        simp only [List.lookup,hb]
        exact ih
theorem oX (f:Str) (v:V):∀ fs:List (Str × V),f ∈ (kA f v fs).map (·.1) /\ ∀ g,g ∈ fs.map (·.1)->g ∈ (kA f v fs).map (·.1)
  | []=>⟨by simp [kA],fun g h=>by simp at h⟩
  | (k,x) :: r=>by
    obtain⟨i1,i2⟩:=oX f v r
    rw [show kA f v ((k,x) :: r)=(if k=f then (k,v) :: r else (k,x) :: kA f v r) from rfl]
    by_cases hk:k=f
    . rw [if_pos hk]
      subst hk
      exact⟨by simp,fun g h=>by simpa using h⟩
    . rw [if_neg hk]
      refine⟨?_,fun g h=>?_⟩
      . rw [List.map_cons]
        exact List.mem_cons_of_mem _ i1
      . rw [List.map_cons] at h ⊢
        rcases List.mem_cons.mp h with e | e
        . exact List.mem_cons.mpr (.inl e)
        . exact List.mem_cons_of_mem _ (i2 g e)
theorem pP (f:Str) (v:V):∀ fs:List (Str × V),(kA f v fs).length <= fs.length + 1
  | []=>by simp [kA]
  | (k,x) :: r=>by
    have ih:=pP f v r
    rw [show kA f v ((k,x) :: r)=(if k=f then (k,v) :: r else (k,x) :: kA f v r) from rfl]
    by_cases hk:k=f
    . rw [if_pos hk,List.length_cons,List.length_cons];omega
    . rw [if_neg hk,List.length_cons,List.length_cons];omega
theorem RelO.some_of {v:V}{o:Option Value}(r:RelO (some v) o):∃ u,o=some u /\ RelV v u:=by
  cases o with
  | none=>exact (show False from r).elim
  | some u=>exact⟨u,rfl,r⟩
theorem P4 {v:V}{u:Value}(r:RelV v u):PySem.W.handedIn u=true:=by
  cases v with
  | non=>cases (show u=Value.none from r);rfl
  | bl b=>cases (show u=Value.bool b from r);rfl
  | int i=>obtain⟨t,e⟩:=(show ∃ t,u=Value.int i t from r);cases e;rfl
  | str x=>obtain⟨t,e⟩:=(show ∃ t,u=Value.str x t from r);cases e;rfl
  | byt b=>obtain⟨t,e⟩:=(show ∃ t,u=Value.bytes b t from r);cases e;rfl
  | flt b=>obtain⟨t,e⟩:=(show ∃ t,u=Value.float b t from r);cases e;rfl
  | ref a=>cases (show u=Value.ref a from r);rfl
  | ty n=>cases (show u=Value.type n from r);rfl
section
variable {P:Program}{w:World}{H H':Hp}{h h':Heap}{a C dx:Addr}{fs fs':List (Str × V)}
theorem vI (hok:HOk P w H h) (e:H a=some (.ins C dx fs)):∃ mA,ObjM h a dx C mA /\ (∀ f,RelO (fs.lookup f) (mA f)) /\ PySem.Within mA (fs.map (·.1)) /\ fs.length <= 1000 /\ H dx=some (.own a):=by
  obtain⟨d,z,ne,ob,mA,n,r,q⟩:=(show ObjOk P w H h a (.ins C dx fs) from hok a _ e)
  exact⟨mA,⟨ob,n,ne⟩,r,q,z,d⟩
end
structure Cls (K:Frag) (C:Addr):Prop where
  pg:PySem.W.plainGet K C Str.empty=true
  hd:PySem.W.hasDictIn K C=true
  po:PySem.W.plainOver K C=true
  sa:PySem.W.findIn K (.ref C) "__setattr__" = some (some (.builtin "object.__setattr__"))
theorem Cls.get {K:Frag}{C:Addr}(c:Cls K C) (f:Str):PySem.W.plainGet K C f=true:=c.pg
noncomputable def NoAttr (K:Frag) (C:Addr) (f:Str):Prop:=PySem.W.findIn K (.ref C) f=some none
theorem NoAttr.taker {K:Frag}{C:Addr}{f:Str}(n:NoAttr K C f):PySem.W.takerIn K C f=some none:=by
  unfold PySem.W.takerIn
  rw [show PySem.W.findIn K (.ref C) f=some none from n]
  rfl
structure Con (K:Frag) (C:Addr) (f:Str) (v:V) (u:Value):Prop where
  at_:PySem.W.findIn K (.ref C) f=some (some u)
  rel:RelV v u
  get:PySem.W.specialIn K u "__get__" = some none
  cp:PySem.W.copiedNames.contains f=false
structure Z4k (K:Frag) (C:Addr) (m:Str) (f:Addr):Prop where
  at_:PySem.W.findIn K (.ref C) m=some (some (.ref f))
  fn:PySem.W.isFn K (.ref f)=true
  kp:keepIn K (.ref f)=true
section
variable {X:Cx}{pins:List (Addr × Obj)}{σ:St}{H:Hp}{s:Shared}{a C dx:Addr}{fs:List (Str × V)}{f:Str}{v:V}{A:Around}{E:Value->Shared->Prop}
theorem A7 {b:Bool}{Q:Value->Shared->Prop}(I:Inv X pins σ H s) (e:H a=some (.ins C dx fs)) (c:Cls X.K C) (n:NoAttr X.K C f) (l:fs.lookup f=some v)
    (h:∀ u s',Inv X pins σ H s'->RelV v u->Q u s'):wpAny (model X.prog X.w) A (getAttr (.ref a) f b) Q E s:=by
  obtain⟨mA,O,r,_,_,_⟩:=vI I.hok e
  obtain⟨u,hu,ru⟩:=RelO.some_of (v:=v) (o:=mA f) (by rw [<- l];exact r f)
  exact Z1g I.kIn O (c.get f) c.hd n hu (P4 ru) (h u _ (I.tok _) ru)
theorem zB {y:V}{u:Value}{Q:Unit->Shared->Prop}(I:Inv X pins σ H s) (e:H a=some (.ins C dx fs)) (c:Cls X.K C) (n:NoAttr X.K C f) (hl:fs.length < 1000) (ry:RelV y u)
    (h:∀ s',Inv X pins σ (upd H a (.ins C dx (kA f y fs))) s'->Q () s'):wpAny (model X.prog X.w) A (setAttr (.ref a) f u) Q E s:=by
  obtain⟨mA,O,r,wi,_,ho⟩:=vI I.hok e
  have hz:(fs.map (·.1)).length <= sizeLine:=by rw [List.length_map,sizeLine_eq];omega
  refine Z0B I.kIn O c.sa c.po n.taker c.hd wi hz fun h' O' sb=>h _ ?_
  have hd:∃ o,h'.get? dx=some o:=let ⟨o,_,_,e',_⟩:=O'.ns;⟨o,e'⟩
  refine I.write (x:=a) (e:=dx) (by rw [e];exact True.intro) (.inr ho) (fun b q hb z=>(sb.2 b hb).trans z) hd ?_
  refine⟨by rw [aM O.ne];exact ho,?_,O.ne,O'.obj,_,O'.ns,fun g=>?_,fun g hg=>?_⟩
  . have:=pP f y fs;omega
  . show RelO ((kA f y fs).lookup g) (if g=f then some u else mA g)
    rw [pO]
    by_cases q:g=f
    . rw [if_pos q,if_pos q];exact ry
    . rw [if_neg q,if_neg q];exact r g
  . by_cases q:g=f
    . rw [q];exact (oX f y fs).1
    . refine (oX f y fs).2 g (wi g fun z=>hg ?_)
      show (if g=f then some u else mA g)=none
      rw [if_neg q];exact z
theorem Inv.made (I:Inv X pins σ H s):Inv X pins σ (upd (upd H s.heap.objs.size (.own (s.heap.objs.size + 1))) (s.heap.objs.size + 1) (.ins C s.heap.objs.size []))
    { s with heap:=(s.heap.push PySem.W.emptyDict).push (PySem.W.instObj C s.heap.objs.size) }:=by
  have e1:(s.heap.push PySem.W.emptyDict).get? s.heap.objs.size=some PySem.W.emptyDict:=Heap.get?_push_size s.heap rfl
  have e2:((s.heap.push PySem.W.emptyDict).push (PySem.W.instObj C s.heap.objs.size)).get? (s.heap.objs.size + 1)=some (PySem.W.instObj C s.heap.objs.size):=by
    have:=Heap.get?_push_size (s.heap.push PySem.W.emptyDict) (o:=PySem.W.instObj C s.heap.objs.size) rfl
    rwa [Heap.size_push] at this
  have e3:(s.heap.push PySem.W.emptyDict).Ns s.heap.objs.size (fun _=>none):=⟨PySem.W.emptyDict,#[],_,e1,rfl,(fun e he=>absurd he (by simp)),fun _=>rfl⟩
  have I1:=I.laid (a:=s.heap.objs.size) (o:=.own (s.heap.objs.size + 1)) (h':=s.heap.push PySem.W.emptyDict) (t':=s.toks) (fun b u q=>Heap.get?_push_of_some _ q) (Nat.le_refl _) ⟨_,e1⟩
  refine I1.laid (a:=s.heap.objs.size + 1) (o:=.ins C s.heap.objs.size []) (t':=s.toks) (fun b u q=>Heap.get?_push_of_some _ q) (Nat.le_of_eq (Heap.size_push _ _)) ?_
  have ne:s.heap.objs.size ≠ s.heap.objs.size + 1:=Nat.ne_of_lt (Nat.lt_succ_self _)
  refine⟨by rw [aM ne,aV],Nat.zero_le _,ne,e2,fun _=>none,(Heap.Ns1.of_empty e3).at fun o q=>Heap.get?_push_of_some _ q,fun _=>True.intro,fun y hy=>absurd rfl hy⟩
theorem Z1r {prog:Program}{w:World}{env:Env}{e:Expr}{f:Str}{pos:Pos}{s:Shared}{Q:Value->Shared->Prop}(hb:attributeBase e f env (eval e env)=eval e env)
    (h:wpAny (model prog w) A (eval e env) (fun o s₁=>wpAny (model prog w) A (getAttr o f true) Q E s₁) E s):wpAny (model prog w) A (eval (.Attribute e f pos) env) Q E s :=
  Attribute_any_ h (by rw [arm_eval_Attribute,hb])
end
noncomputable def Z3R (K:Frag) (ta:TE) (f:Str):TE:=fun σ H Q=>ta σ H fun x H1=>∃ a C dx fs v,x=.ref a /\ H1 a=some (.ins C dx fs) /\ Cls K C /\ NoAttr K C f /\ fs.lookup f=some v /\ Q v H1
noncomputable def Z0E (K:Frag) (ta tv:TE) (f:Str):TS:=fun D σ H=>tv σ H fun y H1=>ta σ H1 fun x H2=>∃ a C dx fs,x=.ref a /\ H2 a=some (.ins C dx fs) /\ Cls K C /\ NoAttr K C f /\ fs.length < 1000 /\
  D.nx σ (upd H2 a (.ins C dx (kA f y fs)))
section
variable {X:Cx}{o e value:Expr}{f:Str}{pos pos' tpos:Pos}{ta tv:TE}
theorem Z2p (he:PE X e ta) (hb:attributeBase e f X.env (eval e X.env)=eval e X.env):PE X (.Attribute e f pos) (Z3R X.K ta f):=by
  intro pins s σ H Q I h
  refine Z1r hb (thn (he pins s σ H _ I h) fun u s1 ⟨x,H1,I1,rx,a,C,dx,fs,v,ex,ea,c,n,l,q⟩=>?_)
  subst ex
  obtain rfl:u=Value.ref a:=rx
  exact A7 I1 ea c n l fun u' s2 I2 ru=>⟨v,H1,I2,ru,q⟩
theorem zL (ha:PE X o ta) (hv:PE X value tv) (hs:swapsWith value (some (.Attribute o f pos')) pos.line X.env=pure false):PS X (.Assign [.Attribute o f pos'] value pos) (Z0E X.K ta tv f):=by
  intro pins s σ H D I h
  refine plainObj_wpAny_Assign_Attribute (thn (hv pins s σ H _ I h) fun u s1 ⟨y,H1,I1,ry,q⟩=>thn (ha pins s1 σ H1 _ I1 q) fun ov s2 ⟨x,H2,I2,rx,a,C,dx,fs,ex,ea,c,n,l,q2⟩=>?_) hs
  subst ex
  obtain rfl:ov=Value.ref a:=rx
  exact zB I2 ea c n l ry fun s3 I3=>⟨σ,_,I3,q2⟩
end
section
variable {X:Cx}{pins:List (Addr × Obj)}{σ:St}{H:Hp}{s:Shared}{A:Around}{E:Value->Shared->Prop}{Q:Value->Shared->Prop}{c:Value}{b:Bool}
inductive qG (K:Frag) (H:Hp):V->Value->Prop where
  | non:qG K H .non (.type "NoneType")
  | bl (x:Bool):qG K H (.bl x) (.type "bool")
  | int (i:Int):qG K H (.int i) (.type "int")
  | str (x:Str):qG K H (.str x) (.type "str")
  | flt (x:UInt64):qG K H (.flt x) (.type "float")
  | lst {a:Addr}{xs:List V}(e:H a=some (.lst xs)):qG K H (.ref a) (.type "list")
  | frz {a:Addr}{o:Obj}{xs:List V}(e:H a=some (.frz o (.lst xs))):qG K H (.ref a) (.type "list")
  | tup {a:Addr}{xs:List V}(e:H a=some (.tup xs)):qG K H (.ref a) (.type "tuple")
  | dK {a:Addr}{kvs:List (Key × V)}(e:H a=some (.dK kvs)):qG K H (.ref a) (.type "dict")
  | dT {a:Addr}{kvs:List (List Key × V)}(e:H a=some (.dT kvs)):qG K H (.ref a) (.type "dict")
  | ins {a C dx:Addr}{fs:List (Str × V)}(e:H a=some (.ins C dx fs)) (cl:Cls K C) (ha:PySem.W.findIn K (.ref C) "__class__" = some (some (.builtin "object.__class__")))
      (hn:PySem.W.specialIn K (.builtin "object.__class__") "__get__" = some (some (.builtin "getset_descriptor.__get__"))) (htk:PySem.W.takesIn K (.builtin "object.__class__")=some true)
      (hm:PySem.W.mroIn K C (.type "object")=some true):qG K H (.ref a) (.ref C)
theorem mQ {x:V}{u t:Value}(I:Inv X pins σ H s) (rx:RelV x u) (ty:qG X.K H x t) (e:PySem.W.kitOne X.K t c=some b) (h:∀ tk,Q (.bool b) { s with toks:=tk }) :
    wpAny (model X.prog X.w) A (call (.builtin "isinstance") [u,c]) Q E s:=by
  cases ty with
  | non=>cases (show u=Value.none from rx);exact PySem.W.kia_one PySem.W.kitx_none I.kIn True.intro e (fun z=>nomatch z) h
  | bl y=>cases (show u=Value.bool y from rx);exact PySem.W.kia_one PySem.W.kitx_bool I.kIn True.intro e (fun z=>nomatch z) h
  | int i=>obtain⟨t,q⟩:=(show ∃ t,u=Value.int i t from rx);cases q;exact PySem.W.kia_one PySem.W.kitx_int I.kIn True.intro e (fun z=>nomatch z) h
  | str y=>obtain⟨t,q⟩:=(show ∃ t,u=Value.str y t from rx);cases q;exact PySem.W.kia_one PySem.W.kitx_str I.kIn True.intro e (fun z=>nomatch z) h
  | flt y=>obtain⟨t,q⟩:=(show ∃ t,u=Value.float y t from rx);cases q;exact PySem.W.kia_one PySem.W.kitx_float I.kIn True.intro e (fun z=>nomatch z) h
  | @lst a xs ea =>
    cases (show u=Value.ref a from rx)
    obtain⟨_,_,n,_,h1⟩:=(show ObjOk X.prog X.w H s.heap a (.lst xs) from I.hok a _ ea)
    exact PySem.W.kia_one PySem.W.kitx_list I.kIn ⟨_,h1,rfl⟩ e (fun z=>nomatch z) h
  | @frz a ob xs ea =>
    cases (show u=Value.ref a from rx)
    obtain⟨_,_,_,n,_,h1⟩:=(show ObjOk X.prog X.w H s.heap a (.frz ob (.lst xs)) from I.hok a _ ea)
    exact PySem.W.kia_one PySem.W.kitx_list I.kIn ⟨_,h1,rfl⟩ e (fun z=>nomatch z) h
  | @tup a xs ea =>
    cases (show u=Value.ref a from rx)
    obtain⟨_,_,_,p⟩:=(show ObjOk X.prog X.w H s.heap a (.tup xs) from I.hok a _ ea)
    obtain⟨o,h1,h2,_⟩:=p
    exact PySem.W.kia_one PySem.W.kitx_tuple I.kIn ⟨o,h1,h2⟩ e (fun z=>nomatch z) h
  | @dK a kvs ea =>
    cases (show u=Value.ref a from rx)
    obtain⟨_,_,vs,_,p⟩:=(show ObjOk X.prog X.w H s.heap a (.dK kvs) from I.hok a _ ea)
    obtain⟨o,es,ep,h1,h2,_⟩:=p
    exact PySem.W.kia_one PySem.W.kitx_dict I.kIn ⟨o,h1,h2.1⟩ e (fun z=>nomatch z) h
  | @dT a kvs ea =>
    cases (show u=Value.ref a from rx)
    obtain⟨_,_,xs,_,o,es,ep,h1,h2,_⟩:=(show ObjOk X.prog X.w H s.heap a (.dT kvs) from I.hok a _ ea)
    exact PySem.W.kia_one PySem.W.kitx_dict I.kIn ⟨o,h1,h2.1⟩ e (fun z=>nomatch z) h
  | @ins a C dx fs ea cl ha hn htk hm =>
    cases (show u=Value.ref a from rx)
    obtain⟨mA,O,_⟩:=vI I.hok ea
    obtain⟨od,J,_⟩:=O.look
    exact PySem.W.kia_one (PySem.W.kitx_own (cl.get _) cl.hd ha hn htk hm) I.kIn J e (fun z=>nomatch z) h
end
structure Room (k:Nat) (A:Around):Prop where
  hd:A.handled=none
  dp:A.depth + 3 * k + 5 < recursionLimit
  un:A.units + 16 * k + 200 < cLine
theorem Room.mono {j k:Nat}{A:Around}(r:Room k A) (h:j <= k):Room j A:=⟨r.hd,by have:=r.dp;omega,by have:=r.un;omega⟩
theorem Room.deeper {k:Nat}{A:Around}(r:Room (k + 1) A) (env:Env):Room k (A.deeper env) :=
  ⟨r.hd,by have:=r.dp;show A.depth + 1 + 3 * k + 5 < _;omega,by have:=r.un;show A.units + 3 + 16 * k + 200 < _;omega⟩
theorem Room.in1 {k:Nat}{A:Around}(r:Room (k + 1) A):Room k A.in1 :=
  ⟨r.hd,by have:=r.dp;show A.depth + 3 * k + 5 < _;omega,by have:=r.un;show A.units + 1 + 16 * k + 200 < _;omega⟩
theorem zX {A:Around}{C:Addr}{us:List Value}{kw:List (Str × Value)}:(A.under (.builtin "type.__call__" ⟨.ref C :: us,kw⟩)).depth=A.depth + 1:=by
  first | rfl | simp [Around.under,Code.weight,Code.isCreation,Code.isGuard,Code.isCaller,Code.frames,Code.isFrame,guardIds]
theorem zW {A:Around}{C:Addr}{us:List Value}{kw:List (Str × Value)}:(A.under (.builtin "type.__call__" ⟨.ref C :: us,kw⟩)).units=A.units + 1:=by
  first | rfl | simp [Around.under,Code.cUnits,Code.frames,Code.isFrame]
theorem Room.make {k:Nat}{A:Around}(r:Room (k + 1) A) (C:Addr) (us:List Value) (kw:List (Str × Value)):Room k (A.under (.builtin "type.__call__" ⟨.ref C :: us,kw⟩)) :=
  ⟨r.hd,by have:=r.dp;rw [zX];omega,by have:=r.un;rw [zW];omega⟩
theorem Room.depth {k:Nat}{A:Around}(r:Room k A):A.depth < recursionLimit:=by have:=r.dp;omega
theorem Room.units {k:Nat}{A:Around}(r:Room k A):A.units + 64 < cLine:=by have:=r.un;omega
noncomputable def Z1X:TA:=fun _ H Q=>Q [] H
noncomputable def C6 (ta:TE) (tr:TA):TA:=fun σ H Q=>ta σ H fun x H1=>tr σ H1 fun xs H2=>Q (x :: xs) H2
section
variable {X:Cx}{e:Expr}{es:List Expr}{te:TE}{t:TA}{pos:Pos}
theorem rK:PA X [] Z1X:=fun _ _ _ _ H Q I h=>Calls.spliced_nil ⟨[],H,I,.nil,h⟩
theorem jS (ha:PE X e te) (hr:PA X es t) (hs:starEach (e :: es) X.env=(false,eval e X.env) :: starEach es X.env:=by rfl):PA X (e :: es) (C6 te t):=by
  intro pos pins s σ H Q I h
  rw [hs]
  show wpAny _ _ (spliced ((false,eval e X.env) :: backTo pos (starEach es X.env))) _ _ s
  refine Calls.spliced_cons (thn (ha pins s σ H _ I h) fun u s1 ⟨x,H1,I1,r1,q1⟩=>?_)
  exact thn (hr pos pins s1 σ H1 _ I1 q1) fun us s2 ⟨xs,H2,I2,r2,q2⟩=>⟨x :: xs,H2,I2,.cons r1 r2,q2⟩
noncomputable def Z3K (t:TA):TE:=fun σ H Q=>t σ H fun xs H1=>xs.length <= sizeLine /\ ∀ p,H1 p=none->Q (.ref p) (upd H1 p (.tup xs))
noncomputable def Z3O (t:TA):TE:=fun σ H Q=>t σ H fun xs H1=>xs.length <= sizeLine /\ ∀ p,H1 p=none->Q (.ref p) (upd H1 p (.lst xs))
theorem pe_tup {x1} (h:PA X es t):PE X (.Tuple es x1 pos) (Z3K t):=by
  intro pins s σ H Q I hq
  refine wpAny_Tuple_spliced (thn (h pos pins s σ H _ I hq) fun us s1 ⟨xs,H1,I1,r,z,q⟩=>⟨by rw [<- r.length];exact z,?_⟩)
  have hf:H1 s1.heap.objs.size=none:=I1.hok.fresh (Nat.le_refl _)
  refine⟨.ref s1.heap.objs.size,upd H1 s1.heap.objs.size (.tup xs),I1.laid (t':=s1.toks) (fun b u e=>Heap.get?_push_of_some _ e) (Nat.le_refl _) ?_,rfl,q _ hf⟩
  exact⟨z,us,r,⟨_,Heap.get?_push_size _ rfl,rfl,_,rfl⟩⟩
theorem pe_lst (h:PA X es t):PE X (.List es pos) (Z3O t):=by
  intro pins s σ H Q I hq
  refine wpAny_List_spliced (thn (h pos pins s σ H _ I hq) fun us s1 ⟨xs,H1,I1,r,z,q⟩=>⟨by rw [<- r.length];exact z,?_⟩)
  have hf:H1 s1.heap.objs.size=none:=I1.hok.fresh (Nat.le_refl _)
  refine⟨.ref s1.heap.objs.size,upd H1 s1.heap.objs.size (.lst xs),I1.laid (t':=s1.toks) (fun b u e=>Heap.get?_push_of_some _ e) (Nat.le_refl _) ?_,rfl,q _ hf⟩
  exact⟨z,us,0,r,Heap.get?_push_size _ rfl⟩
end
noncomputable abbrev Sp:=List V->Hp->VK->XK->Prop
noncomputable abbrev CXT:=List Env->Hp->Shared->XK->Value->Shared->Prop
structure Env0 (P:Program) (w:World) (K:Frag) (mg:Str->Option Value) (base:Heap) (A:Around) (outer:List Env) (s:Shared) (H:Hp):Prop where
  frames:A.frames=some outer
  mod:Mod K mg base
  bs:∀ b o,base.get? b=some o->s.heap.get? b=some o /\ H b=none
  bsz:base.objs.size <= s.heap.objs.size
  funs:s.heap.FunFrames base outer
  frf:∀ b ∈ frs outer,H b=none
  hok:HOk P w H s.heap
  bare:AllBare s.gens
noncomputable def CE (outer:List Env) (P:Program) (w:World) (H:Hp) (s:Shared) (Q:VK) (u:Value) (s':Shared):Prop :=
  ∃ v H',s'.os=s.os /\ AllBare s'.gens /\ Un (frs outer) [] H H' s.heap s'.heap /\ HOk P w H' s'.heap /\ RelV v u /\ Q v H'
noncomputable def CR (CX:CXT) (outer:List Env) (P:Program) (w:World) (H:Hp) (s:Shared) (Q:VK) (E:XK) (r:Result) (s':Shared):Prop :=
  match r with
  | .ok (.ret u)=>CE outer P w H s Q u s'
  | .ok _=>False
  | .error e=>CX outer H s E e s'
structure FnOk (P:Program) (w:World) (K:Frag) (mg:Str->Option Value) (base:Heap) (CX:CXT) (k:Nat) (f:Addr) (fd:FuncData) (ps:List Str) (sp:Sp):Prop where
  len:∀ vs H Q E,sp vs H Q E->vs.length=ps.length
  run:∀ (A:Around) (outer:List Env) (s:Shared) (H:Hp) (args:Args) (us:List Value) (vs:List V) (Q:VK) (E:XK),Room k A->Env0 P w K mg base A outer s H->BindsTo s fd args (ps.zip us)->Vals vs us->sp vs H Q E ->
    codeAny (model P w) A (.call (.ref f) args) (CR CX outer P w H s Q E) s
theorem FnOk.mono {P:Program}{w:World}{K:Frag}{mg:Str->Option Value}{base:Heap}{CX:CXT}{j k:Nat}{f:Addr}{fd:FuncData}{ps:List Str}{sp:Sp}(F:FnOk P w K mg base CX j f fd ps sp) (h:j <= k) :
    FnOk P w K mg base CX k f fd ps sp:=⟨F.len,fun A outer s H args us vs Q E hr=>F.run A outer s H args us vs Q E (hr.mono h)⟩
theorem FnOk.imp {P:Program}{w:World}{K:Frag}{mg:Str->Option Value}{base:Heap}{CX:CXT}{k:Nat}{f:Addr}{fd:FuncData}{ps:List Str}{sp sp':Sp}(F:FnOk P w K mg base CX k f fd ps sp)
    (h:∀ vs H Q E,sp' vs H Q E->sp vs H Q E):FnOk P w K mg base CX k f fd ps sp' :=
  ⟨fun vs H Q E q=>F.len vs H Q E (h _ _ _ _ q),fun A outer s H args us vs Q E hr he hb hv hs=>F.run A outer s H args us vs Q E hr he hb hv (h _ _ _ _ hs)⟩
theorem Env0.make {P:Program}{w:World}{K:Frag}{mg:Str->Option Value}{base:Heap}{A:Around}{outer:List Env}{s:Shared}{H:Hp}(e:Env0 P w K mg base A outer s H) (C:Addr) (us:List Value) (kw:List (Str × Value)) :
    Env0 P w K mg base (A.under (.builtin "type.__call__" ⟨.ref C :: us,kw⟩)) outer s H:=⟨by first | exact e.frames | (simpa [Around.under,Code.envs,Code.isFrame,pushEnvs] using e.frames),e.mod,e.bs,e.bsz,e.funs,e.frf,e.hok,e.bare⟩
theorem Env0.in1 {P:Program}{w:World}{K:Frag}{mg:Str->Option Value}{base:Heap}{A:Around}{outer:List Env}{s:Shared}{H:Hp}(e:Env0 P w K mg base A outer s H) :
    Env0 P w K mg base A.in1 outer s H:=⟨e.frames,e.mod,e.bs,e.bsz,e.funs,e.frf,e.hok,e.bare⟩
section
variable {X:Cx}{pins:List (Addr × Obj)}{σ:St}{H:Hp}{s s':Shared}
theorem Inv.env0 (I:Inv X pins σ H s):Env0 X.prog X.w X.K X.mg X.base X.A X.stack s H :=
  ⟨I.ok.frames,I.ok.mod,I.bs,Nat.le_trans I.ok.bsz I.sz,I.stack,I.stkFree,I.hok,I.bare⟩
theorem Inv.after {Q:VK}{u:Value}(I:Inv X pins σ H s) (h:CE X.stack X.prog X.w H s Q u s'):EP X pins σ Q u s':=by
  obtain⟨v,H',os,bare,un,hok,r,q⟩:=h
  obtain⟨hh,g,d,t,os'⟩:=s'
  obtain rfl:os'=s.os:=os
  exact⟨v,H',I.call (h':=hh) (g':=g) (d':=d) (t':=t) (ch:=[]) un hok bare (fun b z=>absurd z (by simp)),r,q⟩
end
noncomputable def Z2S (sp:Sp) (dvs:List V) (E:XK) (t:TA):TE:=fun σ H Q=>t σ H fun vs H1=>sp (vs ++ dvs) H1 Q E
noncomputable def Z2Q (C:Addr) (sp:Sp) (dvs:List V) (E:XK) (t:TA):TE:=fun σ H Q=>t σ H fun vs H1=>∀ x dx,H1 x=none->H1 dx=none->dx ≠ x ->
  sp (.ref x :: (vs ++ dvs)) (upd (upd H1 dx (.own x)) x (.ins C dx [])) (fun v H2=>v=.non /\ Q (.ref x) H2) E
noncomputable def Binds (K:Frag) (fd:FuncData) (ps:List Str) (ds:List Value):Prop :=
  ∀ (s:Shared) (us:List Value),K.In s.heap->(us ++ ds).length=ps.length->BindsTo s fd ⟨us,[]⟩ (ps.zip (us ++ ds))
theorem Binds.all {K:Frag}{fd:FuncData}{ps:List Str}(h:∀ us:List Value,us.length=ps.length->bindArgs fd ⟨us,[]⟩=pure (ps.zip us)):Binds K fd ps []:=fun s us _ hl=>by
  rw [List.append_nil] at hl ⊢
  exact .of_eq (h us hl)
noncomputable def sL (CX:CXT) (X:Cx) (E:XK):Prop:=∀ (pins:List (Addr × Obj)) (σ:St) (H:Hp) (s:Shared) (e:Value) (s':Shared),Inv X pins σ H s->CX X.stack H s E e s'->X.xe e s'
section
variable {X:Cx}{CX:CXT}{k:Nat}{f C:Addr}{fd:FuncData}{ps:List Str}{sp:Sp}{dvs:List V}{ds:List Value}{E:XK}{x m:Str}{p pos apos:Pos}{e o:Expr}{es:List Expr}{ta:TE}{t:TA}
theorem Z21 {pins:List (Addr × Obj)}{σ:St}{H:Hp}{s:Shared}{Q:VK}{us:List Value}{vs:List V}(F:FnOk X.prog X.w X.K X.mg X.base CX k f fd ps sp) (hr:Room k X.A) (hb:Binds X.K fd ps ds) (hd:Vals dvs ds) (hx:sL CX X E)
    (I:Inv X pins σ H s) (r:Vals vs us) (h:sp (vs ++ dvs) H Q E):wpAny (model X.prog X.w) X.A (call (.ref f) us) (EP X pins σ Q) X.xe s:=by
  have r2:Vals (vs ++ dvs) (us ++ ds):=r.append hd
  have hl:(us ++ ds).length=ps.length:=by rw [<- r2.length];exact F.len _ _ _ _ h
  refine wpAny_call (codeAny_mono (F.run X.A X.stack s H ⟨us,[]⟩ (us ++ ds) (vs ++ dvs) Q E hr I.env0 (hb s us I.kIn hl) r2 h) fun r s' hq=>?_)
  cases r with
  | error e=>exact hx pins σ H s e s' I hq
  | ok fl =>
    cases fl with
    | ret u=>exact I.after hq
    | next=>exact False.elim hq
    | brk=>exact False.elim hq
    | cont=>exact False.elim hq
theorem pe_call (F:FnOk X.prog X.w X.K X.mg X.base CX k f fd ps sp) (hr:Room k X.A) (hg:Gl X x) (hm:X.mg x=some (.ref f)) (hk:keepIn X.K (.ref f)=true) (hb:Binds X.K fd ps ds) (hd:Vals dvs ds) (hx:sL CX X E)
    (ha:PA X (e :: es) t) (hdb:(x == ("__debug__" : Str))=false:=by decide) (he:starEach (e :: es) X.env=(false,eval e X.env) :: starEach es X.env:=by rfl) (hpl:(backTo pos (starEach es X.env)).any (·.1)=false:=by rfl) :
    PE X (.Call (.Name x p) (e :: es) [] pos) (Z2S sp dvs E t):=by
  intro pins s σ H Q I h
  refine wpAny_Call_Name_kw (vH I hg hm ?_ hdb)
  refine PySem.W.callWith_K (h₀:=X.base) I.ok.mod.kin hk (thn (ha pos pins s σ H _ I h) fun us s1 ⟨vs,H1,I1,r,q⟩=>⟨I1.kIn,?_⟩) he hpl
  exact Z21 F hr hb hd hx I1 r q
structure Mk (K:Frag) (C f:Addr):Prop where
  makes:PySem.W.makesIn K C=true
  init:PySem.W.findIn K (.ref C) "__init__" = some (some (.ref f))
  fn:PySem.W.isFn K (.ref f)=true
  kp:keepIn K (.ref C)=true
theorem T7 {pins:List (Addr × Obj)}{σ:St}{H:Hp}{s:Shared}{Q:VK}{us:List Value}{vs:List V}(M:Mk X.K C f) (F:FnOk X.prog X.w X.K X.mg X.base CX k f fd ps sp) (hr:Room (k + 1) X.A) (hb:Binds X.K fd ps ds) (hd:Vals dvs ds)
    (hx:sL CX X E) (I:Inv X pins σ H s) (r:Vals vs us)
    (h:∀ x dx,H x=none->H dx=none->dx ≠ x->sp (.ref x :: (vs ++ dvs)) (upd (upd H dx (.own x)) x (.ins C dx [])) (fun v H2=>v=.non /\ Q (.ref x) H2) E) :
    wpAny (model X.prog X.w) X.A (call (.ref C) us) (EP X pins σ Q) X.xe s:=by
  have hq:=h (s.heap.objs.size + 1) s.heap.objs.size (I.hok.fresh (Nat.le_succ _)) (I.hok.fresh (Nat.le_refl _)) (Nat.ne_of_lt (Nat.lt_succ_self _))
  have I2:=Inv.made (C:=C) I
  have r2:Vals (V.ref (s.heap.objs.size + 1) :: (vs ++ dvs)) (Value.ref (s.heap.objs.size + 1) :: (us ++ ds)):=.cons rfl (r.append hd)
  have hl:(Value.ref (s.heap.objs.size + 1) :: us ++ ds).length=ps.length:=by
    have e:=r2.length
    rw [F.len _ _ _ _ hq] at e
    exact e.symm
  refine wpAny_call (Y0 (f:=f) I.kIn M.makes M.init (beq_iff_eq.mp M.fn) (codeAny_mono (F.run _ X.stack _ _ ⟨Value.ref (s.heap.objs.size + 1) :: us,[]⟩ (Value.ref (s.heap.objs.size + 1) :: (us ++ ds)) _ _ E (hr.make C us [])
    (I2.env0.make C us []) (hb _ (Value.ref (s.heap.objs.size + 1) :: us) I2.kIn hl) r2 hq) fun r s' hq'=>?_))
  cases r with
  | error e=>exact hx pins σ _ _ e s' I2 hq'
  | ok fl =>
    cases fl with
    | ret u =>
      obtain⟨v,H',I3,rv,ev,q3⟩:=I2.after hq'
      subst ev
      exact⟨rv,⟨V.ref (s.heap.objs.size + 1),H',I3,rfl,q3⟩⟩
    | next=>exact False.elim hq'
    | brk=>exact False.elim hq'
    | cont=>exact False.elim hq'
theorem pe_make (M:Mk X.K C f) (F:FnOk X.prog X.w X.K X.mg X.base CX k f fd ps sp) (hr:Room (k + 1) X.A) (hg:Gl X x) (hm:X.mg x=some (.ref C)) (hb:Binds X.K fd ps ds) (hd:Vals dvs ds) (hx:sL CX X E)
    (ha:PA X (e :: es) t) (hdb:(x == ("__debug__" : Str))=false:=by decide) (he:starEach (e :: es) X.env=(false,eval e X.env) :: starEach es X.env:=by rfl) (hpl:(backTo pos (starEach es X.env)).any (·.1)=false:=by rfl) :
    PE X (.Call (.Name x p) (e :: es) [] pos) (Z2Q C sp dvs E t):=by
  intro pins s σ H Q I h
  refine wpAny_Call_Name_kw (vH I hg hm ?_ hdb)
  refine PySem.W.callWith_K (h₀:=X.base) I.ok.mod.kin M.kp (thn (ha pos pins s σ H _ I h) fun us s1 ⟨vs,H1,I1,r,q⟩=>⟨I1.kIn,?_⟩) he hpl
  exact T7 M F hr hb hd hx I1 r q
end
section
variable {X:Cx}{CX:CXT}{k:Nat}{f C:Addr}{fd:FuncData}{ps ks:List Str}{sp:Sp}{E:XK}{x m:Str}{p pos apos kpos:Pos}{e o:Expr}{es:List Expr}{kws:List Keyword}{te ta:TE}{t tk:TA}{nm:Option Str}
structure Z4h (K:Frag) (fd:FuncData) (ps ks:List Str) (g:List Value->List Value->List Value) (gV:List V->List V->List V):Prop where
  to:∀ (s:Shared) (us ws:List Value),K.In s.heap->(g us ws).length=ps.length->BindsTo s fd ⟨us,ks.zip ws⟩ (ps.zip (g us ws))
  rel:∀ {vs:List V}{us:List Value}{zs:List V}{ws:List Value},Vals vs us->Vals zs ws->Vals (gV vs zs) (g us ws)
variable {g:List Value->List Value->List Value}{gV:List V->List V->List V}
end
structure aT (N P:List Str) (sc:Scope):Prop where
  kind:sc.kind=.function
  co:sc.isCoroutine=false
  gen:sc.isGenerator=false
  nd:N.Nodup
  pre:N.take P.length=P
  par:∀ x ∈ P,sc.names.lookup x=some .local \/ sc.names.lookup x=some .cell
  nofree:∀ y ∈ sc.names,y.2 ≠ .free
theorem uK {kindOf:Str->Option NameKind}{x:Str}:∀ {binds:List (Str × Value)}{m:Str->Option Value},(∀ v,(x,v) ∉ binds)->bindL kindOf binds m x=m x
  | [],_,_=>rfl
  | (n,v) :: r,m,h=>by
    unfold bindL
    rw [uK fun w hw=>h w (List.mem_cons_of_mem _ hw)]
    split
    . have:x ≠ n:=by rintro rfl;exact h v List.mem_cons_self
      simp [this]
    . rfl
theorem uM {kindOf:Str->Option NameKind}{x:Str}:∀ {binds:List (Str × Value)}{m:Str->Option Value},(∀ v,(x,v) ∉ binds)->bindC kindOf binds m x=m x
  | [],_,_=>rfl
  | (n,v) :: r,m,h=>by
    unfold bindC
    rw [uM fun w hw=>h w (List.mem_cons_of_mem _ hw)]
    split
    . rfl
    . have:x ≠ n:=by rintro rfl;exact h v List.mem_cons_self
      simp [this]
theorem uL {kindOf:Str->Option NameKind}{x:Str}{v:Value}:∀ {P:List Str}{vs:List Value}{i:Nat}{m:Str->Option Value},P.Nodup->P[i]? = some x->vs[i]? = some v->kindOf x=some .local ->
    bindL kindOf (P.zip vs) m x=some v
  | [],_,_,_,_,h,_,_=>by simp at h
  | _ :: _,[],_,_,_,_,h,_=>by simp at h
  | p :: P,w :: vs,0,m,nd,h1,h2,hk=>by
    simp at h1 h2;subst h1;subst h2
    show bindL kindOf ((p,w) :: P.zip vs) m p=_
    unfold bindL
    rw [uK fun v hv=>(List.nodup_cons.mp nd).1 (List.of_mem_zip hv).1,if_pos hk]
    simp
  | p :: P,w :: vs,i + 1,m,nd,h1,h2,hk=>by
    show bindL kindOf ((p,w) :: P.zip vs) m x=_
    unfold bindL
    exact uL (i:=i) (List.nodup_cons.mp nd).2 (by simpa using h1) (by simpa using h2) hk
theorem uN {kindOf:Str->Option NameKind}{x:Str}{v:Value}:∀ {P:List Str}{vs:List Value}{i:Nat}{m:Str->Option Value},P.Nodup->P[i]? = some x->vs[i]? = some v->kindOf x ≠ some .local ->
    bindC kindOf (P.zip vs) m x=some v
  | [],_,_,_,_,h,_,_=>by simp at h
  | _ :: _,[],_,_,_,_,h,_=>by simp at h
  | p :: P,w :: vs,0,m,nd,h1,h2,hk=>by
    simp at h1 h2;subst h1;subst h2
    show bindC kindOf ((p,w) :: P.zip vs) m p=_
    unfold bindC
    rw [uM fun v hv=>(List.nodup_cons.mp nd).1 (List.of_mem_zip hv).1,if_neg hk]
    simp
  | p :: P,w :: vs,i + 1,m,nd,h1,h2,hk=>by
    show bindC kindOf ((p,w) :: P.zip vs) m x=_
    unfold bindC
    exact uN (i:=i) (List.nodup_cons.mp nd).2 (by simpa using h1) (by simpa using h2) hk
noncomputable def start (N:List Str) (vs:List V):St:=vs.map some ++ List.replicate (N.length - vs.length) none
noncomputable def pG (CX:CXT) (P:Program) (w:World) (K:Frag) (mg:Str->Option Value) (base:Heap) (N:List Str) (qual:Str) (scope:Scope) (f:Addr) (cd:Value) (A:Around) (outer:List Env) (s:Shared) (H:Hp) (E:XK):Cx where
  prog:=P
  w:=w
  K:=K
  mg:=mg
  base:=base
  A:=A.deeper (envOfC qual scope s.heap.objs.size f cd)
  N:=N
  s₀:=s
  H₀:=H
  env:=envOfC qual scope s.heap.objs.size f cd
  outer:=outer
  stack:=envOfC qual scope s.heap.objs.size f cd :: outer
  ex:=[]
  calm:=true
  fn:=fun _=>true
  pn:=[]
  xe:=fun e s'=>wpAny (model P w) (A.deeper (envOfC qual scope s.heap.objs.size f cd)) (leaving (envOfC qual scope s.heap.objs.size f cd) e) (fun _ s''=>CX outer H s E e s'') (fun e' s''=>CX outer H s E e' s'') s'
theorem yD {sc:Scope}{n:Nat}{x:Str}(h:sc.names.lookup x=some .cell):∃ c,(cellsFrom n sc.names []).lookup x=some c:=by
  have q:=PySem.W.cellsFrom_some sc.names n [] (.inl h)
  exact Option.isSome_iff_exists.mp q
theorem tZ {CX:CXT}{P:Program}{w:World}{K:Frag}{mg:Str->Option Value}{base:Heap}{N ps:List Str}{qual:Str}{scope:Scope}{f:Addr}{cd:Value}{A:Around}{outer:List Env}{s s1:Shared}{H:Hp}{E:XK}{us:List Value}{vs:List V}
    (S:aT N ps scope) (hd:A.handled=none) (e0:Env0 P w K mg base A outer s H) (hl:vs.length=ps.length) (r:Vals vs us)
    (x:InCallC s s.heap.objs.size (bindL (envOfC qual scope s.heap.objs.size f cd).kindOf (ps.zip us) fun _=>none) (cellsFrom (s.heap.objs.size + 1) scope.names []) (bindC (envOfC qual scope s.heap.objs.size f cd).kindOf (ps.zip us) fun _=>none) s1) :
    Inv (pG CX P w K mg base N qual scope f cd A outer s H E) [] (start N vs) H s1:=by
  have hpl:ps.length <= N.length:=by have:=congrArg List.length S.pre;rw [List.length_take] at this;omega
  obtain⟨h1,tk,rfl,hk⟩:=x.done
  have noA:∀ b:Addr,b ∉ (pG CX P w K mg base N qual scope f cd A outer s H E).ex:=fun b z=>absurd (show b ∈ ([]:List Addr) from z) (by simp)
  refine⟨⟨e0.mod,S.kind,rfl,rfl,Nat.le_refl _,fun y z c h1 h2=>?_,fun y hy=>?_,fun y c _ h=>?_,fun _=>hd,Around.frames_deeper e0.frames,.inr ⟨rfl,rfl⟩,fun b z=>absurd z (noA b),e0.bs,e0.bsz,fun b _ _=>noA b,fun b z=>absurd z (noA b),e0.funs,e0.frf⟩,
    rfl,e0.bare,Un.kept hk,⟨_,x.toInCall.ns,fun i y v h1 h2 h3=>?_⟩,fun y c h=>⟨_,x.cell y c h⟩,e0.hok.fresh (Nat.le_refl _),fun y c h=>?_,fun p hp=>absurd (show p ∈ ([]:List (Addr × Obj)) from hp) (by simp),e0.hok.kept hk,?_⟩
  . exact name_of_addr x.apart (PySem.mem_of_lookup h1) (PySem.mem_of_lookup h2)
  . have hy:scope.names.lookup y=some .cell \/ scope.names.lookup y=some .free:=hy
    rcases hy with hy | hy
    . exact yD hy
    . exact absurd rfl (S.nofree _ (PySem.mem_of_lookup hy))
  . exact Nat.le_of_lt (x.above y c (PySem.mem_of_lookup h))
  . have hi:i < vs.length:=by
      unfold start at h2
      by_cases hi:i < vs.length
      . exact hi
      . rw [List.getElem?_append_right (by simpa using hi)] at h2
        rw [List.getElem?_replicate] at h2
        split at h2 <;> cases h2
    have ha:vs[i]? = some v:=by
      unfold start at h2
      rw [List.getElem?_append_left (by simpa using hi),List.getElem?_map] at h2
      cases e:vs[i]? with
      | none=>rw [e] at h2;cases h2
      | some a=>rw [e] at h2;cases h2;rfl
    obtain⟨u,hu,rv⟩:=r.get ha
    have hp:ps[i]? = some y:=by
      rw [<- S.pre,List.getElem?_take_of_lt (by omega)];exact h1
    have ndP:ps.Nodup:=by rw [<- S.pre];exact S.nd.sublist (List.take_sublist _ _)
    refine⟨u,rv,?_⟩
    rcases S.par y (List.mem_of_getElem? hp) with k | k
    . exact .inl ⟨k,uL ndP hp hu k⟩
    . obtain⟨c,e⟩:=yD (n:=s.heap.objs.size + 1) k
      refine .inr ⟨.inl k,c,e,?_⟩
      have q:=x.cell y c e
      rw [uN ndP hp hu (by show scope.names.lookup y ≠ _;rw [k];decide)] at q
      exact q
  . exact e0.hok.fresh (Nat.le_of_lt (x.above y c (PySem.mem_of_lookup h)))
  . unfold start
    show _=N.length
    rw [List.length_append,List.length_map,List.length_replicate]
    omega
theorem J1 {CX:CXT}{P:Program}{w:World}{K:Frag}{mg:Str->Option Value}{base:Heap}{k:Nat}{f:Addr}{name qual:Str}{params:Arguments}{body:List Stmt}{scope:Scope}{dV kV doc pm cdv ct oc:Value}{an od:Option Addr}
    {osl:Array (Option Value)}{N ps:List Str}{sp:Sp}(lk:K.lookup f=some ⟨oc,od,.func (fnOf name qual params body scope dV kV doc pm an cdv ct),osl⟩) (hcd:codeIn K cdv qual=true) (S:aT N ps scope)
    (len:∀ vs H Q E,sp vs H Q E->vs.length=ps.length)
    (hbody:∀ (A:Around) (outer:List Env) (s:Shared) (H:Hp) (vs:List V) (Q:VK) (E:XK),Room k (A.deeper (envOfC qual scope s.heap.objs.size f cdv))->sp vs H Q E ->
      ∃ t,PSs (pG CX P w K mg base N qual scope f cdv A outer s H E) body t /\ t { nx:=fun _ H'=>Q .non H',rt:=Q } (start N vs) H) :
    FnOk P w K mg base CX (k + 1) f (fnOf name qual params body scope dV kV doc pm an cdv ct) ps sp:=by
  refine⟨len,fun A outer s H args us vs Q E hr e0 hb r hsp=>?_⟩
  have hl:=len _ _ _ _ hsp
  have KX:K.In s.heap:=e0.mod.kin.keeps fun b o e=>(e0.bs b o e).1
  have lim:s.heap.NoLimit:=e0.mod.nolimit.keeps fun b o e=>(e0.bs b o e).1
  have hkind:∀ y ∈ ps.zip us,scope.names.lookup y.1=some .local \/ (scope.names.lookup y.1=some .cell /\ ((cellsFrom (s.heap.objs.size + 1) scope.names []).lookup y.1).isSome=true):=fun⟨n,v⟩ hy=>by
    rcases S.par n (List.of_mem_zip hy).1 with q | q
    . exact .inl q
    . exact .inr ⟨q,PySem.W.cellsFrom_some _ _ _ (.inl q)⟩
  refine codeAny_call_function hr.depth (KX _ _ lk) rfl S.co S.gen rfl (PySem.W.codeRec_of KX hcd) (hb _ _ _ _ ?_)
  refine wpAny_newFunctionEnv_cells S.kind hkind fun env he s1 x=>?_
  subst he
  refine⟨lim.keeps x.toInCall.keep,codeAny_func ?_⟩
  obtain⟨t,ht,hq⟩:=hbody A outer s H vs Q E (hr.deeper _) hsp
  have I:Inv (pG CX P w K mg base N qual scope f cdv A outer s H E) [] (start N vs) H s1:=tZ S hr.hd e0 hl r x
  refine wpAny_mono (ht [] s1 (start N vs) H _ I hq) (fun fl s' hs=>?_) fun e s' hs=>hs
  have fin:∀ {σ':St}{H':Hp}{v:V}{u:Value},Inv (pG CX P w K mg base N qual scope f cdv A outer s H E) [] σ' H' s'->RelV v u->Q v H'->CE outer P w H s Q u s' :=
    fun {σ' H' v u} J rv q=>⟨v,H',J.os,J.bare,J.base,J.hok,rv,q⟩
  cases fl with
  | ret u =>
    obtain⟨v,σ',H',J,rv,q⟩:=hs
    exact fin J rv q
  | next =>
    obtain⟨σ',H',J,q⟩:=hs
    exact fin (v:=V.non) (u:=Value.none) J rfl q
  | brk =>
    obtain⟨_,_,_,q⟩:=hs
    exact False.elim q
  | cont =>
    obtain⟨_,_,_,q⟩:=hs
    exact False.elim q
section
variable {X:Cx}{x:Str}{p pos:Pos}{e:Expr}{es:List Expr}{t:TA}{id T:String}{r:List V->Hp->VK->Prop}
noncomputable def tCB (r:List V->Hp->VK->Prop) (t:TA):TE:=fun σ H Q=>t σ H fun vs H1=>r vs H1 Q
theorem pe_callB (hc:CallR X (.builtin id) r) (hg:Gl X x) (hm:X.mg x=none) (hv:bootBuiltins x=some (.builtin id)) (ha:PA X (e :: es) t) (hn:x ≠ "__name__":=by decide) (hdb:(x == ("__debug__" : Str))=false:=by decide)
    (he:starEach (e :: es) X.env=(false,eval e X.env) :: starEach es X.env:=by rfl) (hpl:(backTo pos (starEach es X.env)).any (·.1)=false:=by rfl):PE X (.Call (.Name x p) (e :: es) [] pos) (tCB r t):=by
  intro pins s σ H Q I h
  refine wpAny_Call_Name_kw (nF I hg hm hv ?_ hn hdb)
  exact PyProof.Rows.callWith_builtin1 (thn (ha pos pins s σ H _ I h) fun us s1 ⟨vs,H1,I1,r1,q1⟩=>hc pins s1 σ H1 vs us Q I1 r1 q1) he hpl
theorem pe_callTy (hc:CallR X (.type T) r) (hg:Gl X x) (hm:X.mg x=none) (hv:bootBuiltins x=some (.type T)) (ha:PA X (e :: es) t) (hn:x ≠ "__name__":=by decide) (hdb:(x == ("__debug__" : Str))=false:=by decide)
    (he:starEach (e :: es) X.env=(false,eval e X.env) :: starEach es X.env:=by rfl) (hpl:(backTo pos (starEach es X.env)).any (·.1)=false:=by rfl):PE X (.Call (.Name x p) (e :: es) [] pos) (tCB r t):=by
  intro pins s σ H Q I h
  refine wpAny_Call_Name_kw (nF I hg hm hv ?_ hn hdb)
  exact PyProof.Rows.callWith_type1 (thn (ha pos pins s σ H _ I h) fun us s1 ⟨vs,H1,I1,r1,q1⟩=>hc pins s1 σ H1 vs us Q I1 r1 q1) he hpl
end
end L2
namespace HT
open PySem PyProof.Rows
section
open PySem.SeqAt
open PySem.AutoSeq1 (wpAny_loadPart')
open PySem.MeetsSeq PySem.MeetsSeq2 PySem.MeetsSeq3
end
section
variable {prog:Program}{w:World}{A:Around}{E:Value->Shared->Prop}{s:Shared}
noncomputable def sIx (n d:Nat):Option Int->Nat
  | none=>d
  | some v=>if v < 0 then (v + (n:Int)).toNat else min v.toNat n
theorem sIx_none (n d:Nat):sIx n d none=d:=rfl
theorem sIx_nat (n d k:Nat):sIx n d (some (k:Int))=min k n:=by
  show (if (k:Int) < 0 then ((k:Int) + (n:Int)).toNat else min (k:Int).toNat n)=min k n
  rw [if_neg (by omega),Int.toNat_natCast]
theorem Z20 (n d:Nat) (hd:d <= n) (o:Option Int):sIx n d o <= n:=by
  cases o with
  | none=>exact hd
  | some v =>
    show (if v < 0 then (v + (n:Int)).toNat else min v.toNat n) <= n
    by_cases hv:v < 0
    . rw [if_pos hv];omega
    . rw [if_neg hv];exact Nat.min_le_right _ _
theorem J5 (v:Int) (n d:Nat):(if v < 0 then max (v + (n:Int)) 0 else min v (n:Int))=((sIx n d (some v):Nat):Int):=by
  show (if v < 0 then max (v + (n:Int)) 0 else min v (n:Int))=(((if v < 0 then (v + (n:Int)).toNat else min v.toNat n):Nat):Int)
  by_cases hv:v < 0
  . simp only [if_pos hv];omega
  . simp only [if_neg hv];omega
theorem C0 (lo hi:Option Int) (n:Nat):Builtin.Slice.sliceAdjust lo hi 1 (n:Int)=(((sIx n 0 lo:Nat):Int),((sIx n n hi:Nat):Int)):=by
  have h1:¬ ((1:Int) < 0):=by omega
  unfold Builtin.Slice.sliceAdjust
  simp only [h1,if_false]
  refine Prod.ext ?_ ?_
  . cases lo with
    | none=>rfl
    | some v=>exact J5 v n 0
  . cases hi with
    | none=>rfl
    | some v=>exact J5 v n n
theorem zM (i j:Nat):Builtin.Slice.slicePlaces (i:Int) (j:Int) 1=j - i:=by
  unfold Builtin.Slice.slicePlaces
  have h1:(1:Int) > 0:=by omega
  simp only [h1,if_true,Int.ediv_one]
  split <;> omega
theorem qZ {v:Value}{o:Option Int}{Q:Option Int->Shared->Prop}(p:IsPart v o) (h:Q o s):wpAny (model prog w) A (Builtin.Slice.slicePartIndex v) Q E s:=by
  cases p with
  | none=>exact slicePart_none h
  | int i t=>exact slicePart_int h
theorem oG {sl:Addr}{vl vu:Value}{lo hi:Option Int}{n:Nat}{Q:Int × Int × Nat->Shared->Prop}(hs:s.heap.IsSliceOf sl vl vu .none) (pl:IsPart vl lo) (pu:IsPart vu hi)
    (h:Q (((sIx n 0 lo:Nat):Int),1,sIx n n hi - sIx n 0 lo) s):wpAny (model prog w) A (Builtin.Slice.sliceApplied (.ref sl) (pure (n:Int))) Q E s:=by
  obtain⟨os,hos,hcs,hds⟩:=id hs
  unfold Builtin.Slice.sliceApplied Builtin.Slice.sliceFields
  refine wpAny_bind (wpAny_bind (wpAny_field hos hds (x:=vl) rfl (wpAny_bind (wpAny_field hos hds (x:=vu) rfl (wpAny_bind (wpAny_field hos hds (x:=.none) rfl (wpAny_pure ?_)))))))
  refine wpAny_bind (slicePart_none ?_)
  show wpAny _ _ (if ((1:Int) == 0)=true then _ else _) _ _ s
  rw [if_neg (by decide)]
  refine wpAny_bind (qZ pl (wpAny_bind (qZ pu (wpAny_bind (wpAny_pure ?_)))))
  show wpAny _ _ (match Builtin.Slice.sliceAdjust lo hi 1 (n:Int) with | (lo,hi)=>pure (lo,(1:Int),Builtin.Slice.slicePlaces lo hi 1)) _ _ s
  rw [C0 lo hi n]
  show wpAny _ _ (pure (((sIx n 0 lo:Nat):Int),(1:Int),Builtin.Slice.slicePlaces ((sIx n 0 lo:Nat):Int) ((sIx n n hi:Nat):Int) 1)) _ _ s
  rw [zM]
  exact wpAny_pure h
theorem W3 (xs:Array Value) (i k:Nat):((List.range k).filterMap fun (m:Nat)=>xs[((i:Int) + (m:Int) * 1).toNat]?).toArray=((xs.toList.drop i).take k).toArray:=by
  have e:(fun (m:Nat)=>xs[((i:Int) + (m:Int) * 1).toNat]?)=fun m=>xs[i + m]?:=by
    funext m
    have:((i:Int) + (m:Int) * 1).toNat=i + m:=by omega
    rw [this]
  rw [e]
  have:=pick_run xs i k
  rw [List.filterMap_map] at this
  have e2:((fun x=>xs[x]?) ∘ fun x=>i + x)=fun m=>xs[i + m]?:=rfl
  rw [e2] at this
  rw [this]
theorem getItem_tuple_cut {t sl:Addr}{items:Array Value}{vl vu:Value}{lo hi:Option Int}{Q:Value->Shared->Prop}(ht:IsTup s.heap t items) (hs:s.heap.IsSliceOf sl vl vu .none) (pl:IsPart vl lo) (pu:IsPart vu hi)
    (hw:¬ (sIx items.size 0 lo=0 /\ sIx items.size items.size hi=items.size))
    (h:Q (.ref s.heap.objs.size) { s with heap:=s.heap.push { cls:=.type "tuple",data:=.seq ((items.toList.drop (sIx items.size 0 lo)).take (sIx items.size items.size hi - sIx items.size 0 lo)).toArray } })
    (hsz:items.size <= sizeLine):wpAny (model prog w) A (getItem (.ref t) (.ref sl)) Q E s:=by
  have htake:sizeOk (.seq ((items.toList.drop (sIx items.size 0 lo)).take (sIx items.size items.size hi - sIx items.size 0 lo)).toArray):=by
    show ((items.toList.drop (sIx items.size 0 lo)).take (sIx items.size items.size hi - sIx items.size 0 lo)).toArray.size <= sizeLine
    rw [List.size_toArray,List.length_take,List.length_drop,Array.length_toList]
    omega
  have hj:sIx items.size items.size hi <= items.size:=Z20 _ _ (Nat.le_refl _) hi
  obtain⟨os,hos,hcs,hds⟩:=id hs
  have hTs:s.TypeIs (.ref sl) "slice":=⟨os,hos,hcs⟩
  unfold getItem
  try with_reducible refine wpAny_holding ?_
  first | refine wpAny_bind (wpAny_pure ?_) | skip
  refine wpAny_bind (wpAny_sequenceKey ht.typeIs (by decide) ?_)
  refine wpAny_bind (wpAny_callSpecial?_slot (name:=Str.ofString "__getitem__") ht.typeIs PyProof.Rows.slot_tuple_getitem
    (wpAny_call_entry PyProof.Rows.slot_tuple_getitem ht.typeIs entry_tuple_getitem ?_ (args_tuple_getitem _ _)))
  show wpAny _ _ (Builtin.Tuple.tupleItemsOf (.ref t) >>= _) _ _ s
  refine wpAny_bind (tupleItemsOf_ ht ?_)
  refine wpAny_bind (wpAny_typeOf hTs ?_)
  rw [if_pos (by decide)]
  refine wpAny_bind (oG hs pl pu ?_)
  have hno:¬ ((((sIx items.size 0 lo:Nat):Int) == 0 && (1:Int) == 1 && (sIx items.size items.size hi - sIx items.size 0 lo) == items.size)=true):=by
    intro q
    rw [Bool.and_eq_true,Bool.and_eq_true] at q
    have q1:((sIx items.size 0 lo:Nat):Int)=0:=eq_of_beq q.1.1
    have q2:sIx items.size items.size hi - sIx items.size 0 lo=items.size:=eq_of_beq q.2
    exact hw ⟨by omega,by omega⟩
  show wpAny _ _ (if (((sIx items.size 0 lo:Nat):Int) == 0 && (1:Int) == 1 && (sIx items.size items.size hi - sIx items.size 0 lo) == items.size)=true then _ else _) _ _ s
  rw [if_neg hno,W3]
  first
    | exact wpAny_bind (m:=Builtin.Tuple.tupleExact _) (wpAny_newObj_type (wpAny_pure ⟨_,rfl,wpAny_pure h⟩) htake)
    | exact wpAny_bind (m:=Builtin.Tuple.tupleExact _) (wpAny_newObj_type (wpAny_bind (wpAny_pure (wpAny_pure ⟨_,rfl,wpAny_pure h⟩))) htake)
    | exact wpAny_bind (wpAny_bind (m:=Builtin.Tuple.tupleExact _) (wpAny_newObj_type (wpAny_pure (wpAny_pure ⟨_,rfl,wpAny_pure h⟩)) htake))
    | exact wpAny_bind (wpAny_bind (m:=Builtin.Tuple.tupleExact _) (wpAny_newObj_type (wpAny_pure ⟨_,rfl,wpAny_pure h⟩) htake))
end
end HT
namespace L2
open PySem PySem.Spec PyProof.Rows
noncomputable abbrev TO:=St->Hp->(Option Int->Hp->Prop)->Prop
noncomputable def PO (X:Cx) (e:Option Expr) (t:TO):Prop :=
  ∀ (pins:List (Addr × Obj)) (s:Shared) (σ:St) (H:Hp) (Q:Option Int->Hp->Prop),Inv X pins σ H s->t σ H Q ->
    wpAny (model X.prog X.w) X.A (evalPart e X.env) (fun u s'=>∃ o H',Inv X pins σ H' s' /\ IsPart u o /\ Q o H') X.xe s
noncomputable def Z0x:TO:=fun _ H Q=>Q none H
noncomputable def Z2N (t:TE):TO:=fun σ H Q=>t σ H fun x H1=>∃ i,x=.int i /\ Q (some i) H1
theorem rV {ns:List Int}:∀ {us:List Value},Vals (ns.map V.int) us->IntsAre us ns:=by
  induction ns with
  | nil=>intro us r;rw [List.map_nil] at r;cases r;exact .nil
  | cons n ns ih =>
    intro us r
    rw [List.map_cons] at r
    cases r with
    | cons r1 r2 =>
      obtain⟨t,e⟩:=r1
      subst e
      exact .cons n t (ih r2)
section
variable {X:Cx}{e:Expr}{te:TE}{lo hi:Option Expr}{tl th:TO}{pos p2:Pos}
theorem Z0X:PO X none Z0x:=by
  intro pins s σ H Q I h
  rw [evalPart_none]
  exact wpAny_pure ⟨none,H,I,.none,h⟩
theorem Z0W (h:PE X e te):PO X (some e) (Z2N te):=by
  intro pins s σ H Q I hw
  rw [evalPart_some]
  refine thn (h pins s σ H _ I hw) fun u s1 ⟨x,H1,I1,r1,q1⟩=>?_
  obtain⟨i,rfl,q⟩:=q1
  obtain⟨t,rfl⟩:=r1
  exact⟨some i,H1,I1,.int i t,q⟩
noncomputable def SlR (X:Cx) (r:V->Option Int->Option Int->Hp->VK->Prop):Prop :=
  ∀ (pins:List (Addr × Obj)) (s:Shared) (σ:St) (H:Hp) (x:V) (v vl vu:Value) (lo hi:Option Int) (sl:Addr) (Q:VK),Inv X pins σ H s->RelV x v->s.heap.IsSliceOf sl vl vu .none->IsPart vl lo->IsPart vu hi->r x lo hi H Q ->
    ∃ T id,typeLookup (.type T) "__getitem__" = pure (some (.builtin id)) /\ s.TypeIs v T /\ wpAny (model X.prog X.w) X.A (getItem v (.ref sl)) (EP X pins σ Q) X.xe s
theorem SlR.or {r r':V->Option Int->Option Int->Hp->VK->Prop}(h:SlR X r) (h':SlR X r'):SlR X (fun x lo hi H Q=>r x lo hi H Q \/ r' x lo hi H Q):=by
  intro pins s σ H x v vl vu lo hi sl Q I rx hs pl pu q
  rcases q with q | q
  . exact h pins s σ H x v vl vu lo hi sl Q I rx hs pl pu q
  . exact h' pins s σ H x v vl vu lo hi sl Q I rx hs pl pu q
noncomputable def tSl (r:V->Option Int->Option Int->Hp->VK->Prop) (te:TE) (tl th:TO):TE:=fun σ H Q=>te σ H fun x H1=>tl σ H1 fun l H2=>th σ H2 fun u H3=>r x l u H3 Q
theorem pe_slice {r:V->Option Int->Option Int->Hp->VK->Prop}(hr:SlR X r) (he:PE X e te) (hl:PO X lo tl) (hu:PO X hi th):PE X (.Subscript e (.Slice lo hi none p2) pos) (tSl r te tl th):=by
  intro pins s σ H Q I h
  refine Subscript_ (thn (he pins s σ H _ I h) fun v s1 ⟨x,H1,I1,r1,q1⟩=>?_)
  refine wpAny_Slice (thn (hl pins s1 σ H1 _ I1 q1) fun vl s2 ⟨l,H2,I2,pl,q2⟩=>thn (hu pins s2 σ H2 _ I2 q2) fun vu s3 ⟨u,H3,I3,pu,q3⟩=>?_)
  rw [evalPart_none]
  refine wpAny_pure ?_
  have I4:Inv X pins σ H3 { s3 with heap:=s3.heap.push { cls:=.type "slice",data:=.fields #[vl,vu,.none] } }:=I3.kept (t':=s3.toks) fun b ob q=>Heap.get?_push_of_some _ q
  obtain⟨T,id,hT,ht,hg⟩:=hr pins { s3 with heap:=s3.heap.push { cls:=.type "slice",data:=.fields #[vl,vu,.none] } } σ H3 x v vl vu l u s3.heap.objs.size Q I4 r1 (Heap.IsSliceOf.new ..) pl pu q3
  show wpAny (model X.prog X.w) X.A (subscriptTail e (.Slice lo hi none p2) v (.ref s3.heap.objs.size)) (EP X pins σ Q) X.xe { s3 with heap:=s3.heap.push { cls:=.type "slice",data:=.fields #[vl,vu,.none] } }
  exact tail_any (ops:=[.ref s3.heap.objs.size,v]) ht hT hg (by with_unfolding_all rfl)
noncomputable def yA (xs:List V) (lo hi:Option Int):List V:=(xs.drop (HT.sIx xs.length 0 lo)).take (HT.sIx xs.length xs.length hi - HT.sIx xs.length 0 lo)
theorem pY (xs:List V) (lo hi:Option Int):(yA xs lo hi).length <= xs.length:=by
  unfold yA
  rw [List.length_take,List.length_drop]
  omega
noncomputable def Z43 (K:Frag):V->Option Int->Option Int->Hp->VK->Prop:=fun x lo hi H Q=>∃ a xs,x=.ref a /\ SqT K H a xs /\
  ¬ (HT.sIx xs.length 0 lo=0 /\ HT.sIx xs.length xs.length hi=xs.length) /\ ∀ p,H p=none->Q (.ref p) (upd H p (.tup (yA xs lo hi)))
theorem Z1Z:SlR X (Z43 X.K):=by
  intro pins s σ H x v vl vu lo hi sl Q I rx hs pl pu h
  obtain⟨a,xs,rfl,hx,hw,q⟩:=h
  cases rx
  obtain⟨its,r,ht,hz⟩:=I.tuple hx
  have hlen:its.toArray.size=xs.length:=by rw [List.size_toArray];exact r.length.symm
  refine⟨"tuple",_,PyProof.Rows.slot_tuple_getitem.lookup,ht.typeIs,?_⟩
  refine HT.getItem_tuple_cut ht hs pl pu (by rw [hlen];exact hw) ?_ (by rw [hlen];exact hz)
  rw [hlen]
  refine⟨.ref s.heap.objs.size,_,I.laid (t':=s.toks) (o:=.tup (yA xs lo hi)) (fun b ob q=>Heap.get?_push_of_some _ q) (Nat.le_refl _) ?_,rfl,q _ (I.hok.fresh (Nat.le_refl _))⟩
  exact⟨Nat.le_trans (pY xs lo hi) hz,_,(r.drop (HT.sIx xs.length 0 lo)).take (HT.sIx xs.length xs.length hi - HT.sIx xs.length 0 lo),IsTup.new _ _⟩
end
noncomputable def ixN (n:Nat) (i:Int):Option Nat:=if 0 <= i then (if i < n then some i.toNat else none) else if -(n:Int) <= i then some (i + n).toNat else none
noncomputable def atI {α:Type}(xs:List α) (i:Int):Option α:=(ixN xs.length i).bind fun j=>xs[j]?
theorem E5 {n:Nat}{i:Int}{j:Nat}(h:ixN n i=some j):seqIndex? i n=some j /\ j < n /\ -(n:Int) <= i /\ i < n:=by
  unfold ixN at h
  by_cases h0:0 <= i
  . rw [if_pos h0] at h
    by_cases h1:i < n
    . rw [if_pos h1] at h
      have e:i.toNat=j:=Option.some.inj h
      exact⟨by rw [seqIndex_of h0 h1,e],by omega,by omega,h1⟩
    . rw [if_neg h1] at h;cases h
  . rw [if_neg h0] at h
    by_cases h1:-(n:Int) <= i
    . rw [if_pos h1] at h
      have e:(i + n).toNat=j:=Option.some.inj h
      exact⟨by rw [seqIndex_neg (by omega) h1,e],by omega,h1,by omega⟩
    . rw [if_neg h1] at h;cases h
theorem vU {α:Type}{xs:List α}{i:Int}{v:α}(h:atI xs i=some v):∃ j,seqIndex? i xs.length=some j /\ xs[j]? = some v /\ j < xs.length /\ -(xs.length:Int) <= i /\ i < xs.length:=by
  unfold atI at h
  cases e:ixN xs.length i with
  | none=>rw [e] at h;cases h
  | some j =>
    rw [e] at h
    obtain⟨h1,h2,h3,h4⟩:=E5 e
    exact⟨j,h1,h,h2,h3,h4⟩
theorem lK {α:Type}{xs:List α}{j:Nat}{v:α}(h:xs[j]? = some v):atI xs (j:Int)=some v:=by
  have hj:j < xs.length:=(List.getElem?_eq_some_iff.mp h).1
  have e:ixN xs.length (j:Int)=some j:=by
    unfold ixN
    rw [if_pos (by omega),if_pos (by omega)];simp
  unfold atI;rw [e];exact h
noncomputable def J9 (b:Expr):Prop:=∀ o i,subscripted b false o i=operate [o,i] (getItem o i)
noncomputable def IxR (X:Cx) (r:R2):Prop :=
  ∀ (value slice:Expr) (pins:List (Addr × Obj)) (s:Shared) (σ:St) (H:Hp) (x y:V) (v u:Value) (Q:VK),Inv X pins σ H s->RelV x v->RelV y u->r x y H Q ->
    subscripted slice false v u=operate [v,u] (getItem v u)->wpAny (model X.prog X.w) X.A (subscriptTail value slice v u) (EP X pins σ Q) X.xe s
noncomputable def MtR (X:Cx) (id:String) (r:V->List V->Hp->VK->Prop):Prop :=
  ∀ (pins:List (Addr × Obj)) (s:Shared) (σ:St) (H:Hp) (x:V) (xs:List V) (v:Value) (us:List Value) (Q:VK),Inv X pins σ H s->RelV x v->Vals xs us->r x xs H Q ->
    wpAny (model X.prog X.w) X.A (call (.builtin id) (v :: us)) (EP X pins σ Q) X.xe s
section
variable {X:Cx}{a b:Expr}{ta tb:TE}{pos:Pos}
theorem IxR.or {r r':R2}(h:IxR X r) (h':IxR X r'):IxR X (fun x y H Q=>r x y H Q \/ r' x y H Q):=by
  intro value slice pins s σ H x y v u Q I rx ry q hs
  rcases q with q | q
  . exact h value slice pins s σ H x y v u Q I rx ry q hs
  . exact h' value slice pins s σ H x y v u Q I rx ry q hs
theorem MtR.or {id:String}{r r':V->List V->Hp->VK->Prop}(h:MtR X id r) (h':MtR X id r'):MtR X id (fun x xs H Q=>r x xs H Q \/ r' x xs H Q):=by
  intro pins s σ H x xs v us Q I rx rs q
  rcases q with q | q
  . exact h pins s σ H x xs v us Q I rx rs q
  . exact h' pins s σ H x xs v us Q I rx rs q
theorem Z3g {r:R2}(hr:IxR X r) (ha:PE X a ta) (hb:PE X b tb) (hs:J9 b):PE X (.Subscript a b pos) (tOp r ta tb):=by
  intro pins s σ H Q I h
  exact Subscript_ (Z2H ha hb I h fun v u s2 x y H2 I2 rx ry q=>hr a b pins s2 σ H2 x y v u Q I2 rx ry q (hs _ _))
noncomputable def Z33 (K:Frag):R2:=fun x y H Q=>∃ p xs i v,x=.ref p /\ y=.int i /\ SqL K H p xs /\ atI xs i=some v /\ Q v H
noncomputable def Z31 (K:Frag):R2:=fun x y H Q=>∃ p xs i v,x=.ref p /\ y=.int i /\ SqT K H p xs /\ atI xs i=some v /\ Q v H
noncomputable def Z32:R2:=fun x y H Q=>∃ z i c,x=.str z /\ y=.int i /\ z.length <= sizeLine /\ atI z.cps.toList i=some c /\ Q (.str ⟨#[c]⟩) H
theorem ix_list:IxR X (Z33 X.K):=by
  intro value slice pins s σ H x y v u Q I rx ry h hs
  obtain⟨p,xs,i,z,rfl,rfl,hq,he,q⟩:=h
  cases rx
  obtain⟨t,rfl⟩:=ry
  obtain⟨its,r,pl,hz⟩:=I.list hq
  obtain⟨j,h1,h2,h3,h4,h5⟩:=vU he
  obtain⟨w,ew,rw'⟩:=r.get h2
  have hl:=r.length
  have hn:=oT
  have fin:EP X pins σ Q w s:=⟨z,H,I,rw',q⟩
  by_cases h0:0 <= i
  . have hj:i.toNat=j:=by
      rw [seqIndex_of h0 h5] at h1
      exact Option.some.inj h1
    exact item_listR pl.isList h0 (by omega) (by rw [hj];simpa using ew) fin hs
  . have hj:(i + (its.toArray.size:Int)).toNat=j:=by
      rw [seqIndex_neg (by omega) h4] at h1
      rw [List.size_toArray,<- hl]
      exact Option.some.inj h1
    exact subscriptTail_builtinR (x:=w) pl.isList.typeIs slot_list_getitem.lookup
      (wpAny_getItem_list_neg (Q:=fun r s'=>r=w /\ EP X pins σ Q r s') pl.isList (by omega) (by rw [List.size_toArray] <;> omega) (by omega) (by rw [hj];simpa using ew) ⟨rfl,fin⟩) hs
theorem ix_tup:IxR X (Z31 X.K):=by
  intro value slice pins s σ H x y v u Q I rx ry h hs
  obtain⟨p,xs,i,z,rfl,rfl,hq,he,q⟩:=h
  cases rx
  obtain⟨t,rfl⟩:=ry
  obtain⟨its,r,pl,hz⟩:=I.tuple hq
  obtain⟨j,h1,h2,h3,h4,h5⟩:=vU he
  obtain⟨w,ew,rw'⟩:=r.get h2
  have hl:=r.length
  have hn:=oT
  have fin:EP X pins σ Q w s:=⟨z,H,I,rw',q⟩
  exact subscriptTail_builtinR (x:=w) pl.typeIs slot_tuple_getitem.lookup
    (getItem_tuple (j:=j) (Q:=fun r s'=>r=w /\ EP X pins σ Q r s') pl (by omega) (by omega) (by rw [List.size_toArray,<- hl];exact h1) (by simpa using ew) ⟨rfl,fin⟩) hs
theorem Z2y:IxR X Z32:=by
  intro value slice pins s σ H x y v u Q I rx ry h hs
  obtain⟨z,i,c,rfl,rfl,hz,he,q⟩:=h
  obtain⟨t,rfl⟩:=rx
  obtain⟨t',rfl⟩:=ry
  obtain⟨j,h1,h2,h3,h4,h5⟩:=vU he
  have hl:z.cps.toList.length=z.length:=by simp [Str.length]
  rw [hl] at h1 h4 h5
  have hn:=oT
  exact tail_any (typeIs_str s z t) slot_str_getitem.lookup (getItem_str (c:=c) (by
    have e1:decide (i < -(2 ^ 63:Int))=false:=decide_eq_false (by omega)
    have e2:decide (i ≥ 2 ^ 63)=false:=decide_eq_false (by omega)
    rw [e1,e2,Bool.or_false]) (by rw [h1];simpa using h2) ⟨.str ⟨#[c]⟩,H,I.tok _,⟨_,rfl⟩,q⟩) hs
noncomputable def rIx (K:Frag):R2:=fun x y H Q=>Z33 K x y H Q \/ Z31 K x y H Q \/ Z32 x y H Q
theorem Z2z:IxR X (rIx X.K):=ix_list.or (ix_tup.or Z2y)
theorem zV (its:List Value) (n j:Nat) (u:Value):Obj.mapSeq (·.setIfInBounds j u) { cls:=.type "list",data:=.seq its.toArray n }={ cls:=.type "list",data:=.seq (its.set j u).toArray n }:=by
  simp [Obj.mapSeq]
theorem Inv.lst {pins:List (Addr × Obj)}{σ:St}{H:Hp}{s:Shared}{p:Addr}{xs:List V}(I:Inv X pins σ H s) (h:H p=some (.lst xs)) :
    ∃ (its:List Value) (n:Nat),Vals xs its /\ s.heap.get? p=some { cls:=.type "list",data:=.seq its.toArray n } /\ xs.length <= sizeLine:=by
  obtain⟨z,its,n,r,e⟩:=I.hok p _ h
  exact⟨its,n,r,e,z⟩
theorem Inv.lstUpd {pins:List (Addr × Obj)}{σ:St}{H:Hp}{s:Shared}{p:Addr}{xs ys:List V}{its its':List Value}{n n':Nat}{f:Obj->Obj}(I:Inv X pins σ H s) (h:H p=some (.lst xs))
    (ho:s.heap.get? p=some { cls:=.type "list",data:=.seq its.toArray n }) (hf:f { cls:=.type "list",data:=.seq its.toArray n }={ cls:=.type "list",data:=.seq its'.toArray n' }) (r:Vals ys its') (hz:ys.length <= sizeLine) (t:Nat) :
    Inv X pins σ (upd H p (.lst ys)) { s with heap:=s.heap.update p f,toks:=t }:=by
  have e:(s.heap.update p f).get? p=some { cls:=.type "list",data:=.seq its'.toArray n' }:=by
    rw [Heap.get?_update_self f ho (by rw [hf] <;> rfl),hf]
  refine I.write (x:=p) (e:=p) (by rw [h];trivial) (.inl rfl) (fun b u hb q=>(Heap.get?_update_other _ _ (Ne.symm hb)).trans q) ⟨_,e⟩ ?_
  exact⟨hz,its',n',r,e⟩
noncomputable def Z1E:V->V->V->Hp->(Hp->Prop)->Prop:=fun o i v H Q=>∃ p xs k j,o=.ref p /\ i=.int k /\ H p=some (.lst xs) /\ ixN xs.length k=some j /\ Q (upd H p (.lst (xs.set j v)))
theorem T5:Z3D X Z1E:=by
  intro pins s σ H o i v ov iv u Q I ro ri rv h
  obtain⟨p,xs,k,j,rfl,rfl,hp,hj,q⟩:=h
  cases ro
  obtain⟨t,rfl⟩:=ri
  obtain⟨its,n,r,ho,hz⟩:=I.lst hp
  obtain⟨h1,h2,h3,h4⟩:=E5 hj
  have hl:=r.length
  have hn:=oT
  have I':Inv X pins σ (upd H p (.lst (xs.set j v))) { s with heap:=s.heap.update p (Obj.mapSeq (·.setIfInBounds j u)) } :=
    I.lstUpd hp ho (zV its n j u) (r.set rv j) (by rw [List.length_set];exact hz) s.toks
  by_cases h0:0 <= k
  . have hk:k.toNat=j:=by
      rw [seqIndex_of h0 h4] at h1
      exact Option.some.inj h1
    exact PySem.W.ki_setAt ho h0 (by omega) (by rw [List.size_toArray,<- hl];exact h4) (by rw [hk];exact⟨_,I',q⟩)
  . have hk:(k + (its.toArray.size:Int)).toNat=j:=by
      rw [seqIndex_neg (by omega) h3] at h1
      rw [List.size_toArray,<- hl]
      exact Option.some.inj h1
    exact PySem.W.ki_setBack ho (by omega) (by rw [List.size_toArray,<- hl];exact h3) (by omega) (by rw [hk];exact⟨_,I',q⟩)
theorem uR (lo hi:Option Int) (n:Nat):(sliceBounds lo hi none n).1=((HT.sIx n 0 lo:Nat):Int) /\ (sliceBounds lo hi none n).2.1=((HT.sIx n n hi:Nat):Int) /\ (sliceBounds lo hi none n).2.2=1:=by
  refine⟨?_,?_,rfl⟩
  . cases lo with
    | none=>simp [sliceBounds,HT.sIx]
    | some i =>
      simp only [sliceBounds,HT.sIx,Option.getD_none,show (1:Int) > 0 by decide,if_true]
      by_cases h:i < 0
      . simp only [h,if_true] <;> omega
      . simp only [h,if_false] <;> omega
  . cases hi with
    | none=>simp [sliceBounds,HT.sIx]
    | some i =>
      simp only [sliceBounds,HT.sIx,Option.getD_none,show (1:Int) > 0 by decide,if_true]
      by_cases h:i < 0
      . simp only [h,if_true] <;> omega
      . simp only [h,if_false] <;> omega
theorem sO (its:List Value) (lo hi:Option Int):slicePick its.toArray lo hi none=((its.drop (HT.sIx its.length 0 lo)).take (HT.sIx its.length its.length hi - HT.sIx its.length 0 lo)).toArray:=by
  obtain⟨h1,h2,h3⟩:=uR lo hi its.toArray.size
  unfold slicePick
  rw [h1,h2,h3]
  simp only [sliceRange_one,pick_run,List.size_toArray] <;> rfl
noncomputable def Z44 (K:Frag):V->Option Int->Option Int->Hp->VK->Prop:=fun x lo hi H Q=>∃ a xs,x=.ref a /\ SqL K H a xs /\ ∀ p,H p=none->Q (.ref p) (upd H p (.lst (yA xs lo hi)))
theorem Z0z:SlR X (Z44 X.K):=by
  intro pins s σ H x v vl vu lo hi sl Q I rx hs pl pu h
  obtain⟨a,xs,rfl,hx,q⟩:=h
  cases rx
  obtain⟨its,r,ht,hz⟩:=I.list hx
  have hlen:=r.length
  refine⟨"list",_,slot_list_getitem.lookup,ht.isList.typeIs,?_⟩
  refine wpAny_getItem_list_slice ht.isList hs pl pu .none (by simp) ?_ (by rw [List.size_toArray] <;> omega)
  rw [sO,<- hlen]
  refine⟨.ref s.heap.objs.size,_,I.laid (t':=s.toks) (o:=.lst (yA xs lo hi)) (fun b ob q=>Heap.get?_push_of_some _ q) (Nat.le_refl _) ?_,rfl,q _ (I.hok.fresh (Nat.le_refl _))⟩
  exact⟨Nat.le_trans (pY xs lo hi) hz,_,0,(r.drop (HT.sIx xs.length 0 lo)).take (HT.sIx xs.length xs.length hi - HT.sIx xs.length 0 lo),Heap.get?_push_size _ rfl⟩
theorem uY:OpR X (compareOp .NotIn) (fun x y H Q=>∃ i j,x=.str i /\ y=.str j /\ Q (.bl (!(!(Builtin.Str.occurrences j i 0 j.length 1).isEmpty))) H):=by
  intro pins s σ H x y v u Q I rx ry h
  obtain⟨i,j,rfl,rfl,q⟩:=h
  obtain⟨t,rfl⟩:=rx
  obtain⟨t',rfl⟩:=ry
  exact notIn_str ⟨.bl _,H,I,rfl,q⟩
theorem call_len_seq:CallR X (.builtin "len") (fun xs H Q=>∃ p ys,xs=[.ref p] /\ (SqL X.K H p ys \/ SqT X.K H p ys) /\ Q (.int ys.length) H):=by
  intro pins s σ H xs us Q I r h
  obtain⟨p,ys,rfl,hq,q⟩:=h
  obtain⟨u,rfl,rx⟩:=mV r
  cases rx
  have hn:=oT
  rcases hq with hq | hq
  . obtain⟨its,r',pl,hz⟩:=I.list hq
    have hlen:=r'.length
    exact Calls.call_len_list pl.isList (by simp only [List.size_toArray] <;> omega) ⟨.int ys.length,H,I.tok _,⟨s.toks + 1,by rw [List.size_toArray,hlen]⟩,q⟩
  . obtain⟨its,r',pl,hz⟩:=I.tuple hq
    have hlen:=r'.length
    exact len_tuple pl (by simp only [List.size_toArray] <;> omega) ⟨.int ys.length,H,I.tok _,⟨s.toks + 1,by rw [List.size_toArray,hlen]⟩,q⟩
theorem vT:CallR X (.builtin "len") (fun xs H Q=>∃ z,xs=[.str z] /\ z.length <= sizeLine /\ Q (.int z.length) H):=by
  intro pins s σ H xs us Q I r h
  obtain⟨z,rfl,hz,q⟩:=h
  obtain⟨u,rfl,t,rfl⟩:=mV r
  have hn:=oT
  exact len_str (by omega) ⟨.int z.length,H,I.tok _,⟨_,rfl⟩,q⟩
theorem CallR.or {f:Value}{r r':List V->Hp->VK->Prop}(h:CallR X f r) (h':CallR X f r'):CallR X f (fun xs H Q=>r xs H Q \/ r' xs H Q):=by
  intro pins s σ H xs us Q I rs q
  rcases q with q | q
  . exact h pins s σ H xs us Q I rs q
  . exact h' pins s σ H xs us Q I rs q
theorem vS:CallR X (.type "list") (fun xs H Q=>∃ p ys,xs=[.ref p] /\ (SqL X.K H p ys \/ SqT X.K H p ys) /\ ∀ l,H l=none->Q (.ref l) (upd H l (.lst ys))):=by
  intro pins s σ H xs us Q I r h
  obtain⟨p,ys,rfl,hq,q⟩:=h
  obtain⟨u,rfl,rx⟩:=mV r
  cases rx
  have fin:∀ (its:List Value),Vals ys its->ys.length <= sizeLine->∀ (h':Heap) (c':Nat),(∀ b o',s.heap.get? b=some o'->h'.get? b=some o') ->
      h'.get? s.heap.objs.size=some { cls:=.type "list",dict:=none,data:=.seq its.toArray c',slots:=#[] }->EP X pins σ Q (.ref s.heap.objs.size) { s with heap:=h' }:=fun its r' hz h' c' kp e =>
    ⟨.ref s.heap.objs.size,_,I.laid (t':=s.toks) kp (Nat.le_refl _) (show ObjOk X.prog X.w _ h' _ (.lst ys) from ⟨hz,its,c',r',e⟩),rfl,q _ (I.hok.fresh (Nat.le_refl _))⟩
  rcases hq with hq | hq
  . obtain⟨its,r',pl,hz⟩:=I.list hq
    have hlen:=r'.length
    obtain⟨o,ho,hc,n,hd⟩:=pl.isList
    exact call_list_seq p (.inl rfl) ho hc hd (fun h' c' kp e=>fin its r' hz h' c' kp e) (by simp only [List.size_toArray] <;> omega)
  . obtain⟨its,r',pl,hz⟩:=I.tuple hq
    have hlen:=r'.length
    obtain⟨o,ho,hc,n,hd⟩:=pl
    exact call_list_seq p (.inr rfl) ho hc hd (fun h' c' kp e=>fin its r' hz h' c' kp e) (by simp only [List.size_toArray] <;> omega)
theorem sY:CallR X (.type "tuple") (fun xs H Q=>∃ p ys,xs=[.ref p] /\ ((SqL X.K H p ys /\ ∀ l,H l=none->Q (.ref l) (upd H l (.tup ys))) \/ (SqT X.K H p ys /\ Q (.ref p) H))):=by
  intro pins s σ H xs us Q I r h
  obtain⟨p,ys,rfl,h⟩:=h
  obtain⟨u,rfl,rx⟩:=mV r
  cases rx
  rcases h with ⟨hq,q⟩ | ⟨hq,q⟩
  . obtain⟨its,r',pl,hz⟩:=I.list hq
    have hlen:=r'.length
    refine call_tuple_list pl.isList (fun h' kp=>?_) (by simp only [List.size_toArray] <;> omega)
    have I1:Inv X pins σ H { s with heap:=h' }:=I.kept (t':=s.toks) kp
    have I2:Inv X pins σ (upd H h'.objs.size (.tup ys)) { s with heap:=h'.push { cls:=.type "tuple",data:=.seq its.toArray } } :=
      I1.laid (t':=s.toks) (fun b o e=>Heap.get?_push_of_some _ e) (Nat.le_refl _) (show ObjOk X.prog X.w _ _ _ (.tup ys) from ⟨hz,its,r',IsTup.new _ _⟩)
    exact⟨.ref h'.objs.size,_,I2,rfl,q _ (I1.hok.fresh (Nat.le_refl _))⟩
  . obtain⟨its,r',pl,hz⟩:=I.tuple hq
    exact call_tuple_same pl ⟨.ref p,H,I,rfl,q⟩
noncomputable def tyV (K:Frag) (T:String) (x:V) (H:Hp):Prop:=match x with
  | .str _=>T = "str"
  | .int _=>T = "int"
  | .ref p=>(T = "list" /\ ∃ xs,SqL K H p xs) \/ (T = "tuple" /\ ∃ o,K.lookup p=some o /\ o.cls=.type "tuple" /\ o.dict=none) \/
      (T = "dict" /\ ((∃ kvs,H p=some (.dK kvs)) \/ ∃ es ep,H p=some (.dE es ep))) \/ (T = "set" /\ ∃ S n,H p=some (.set S n))
  | _=>False
theorem S7 {pins:List (Addr × Obj)}{σ:St}{H:Hp}{s:Shared}{T:String}{x:V}{v:Value}(I:Inv X pins σ H s) (r:RelV x v) (ty:tyV X.K T x H) :
    s.TypeIs v T /\ ∀ a,v=.ref a->∃ ob,s.heap.get? a=some ob /\ ob.dict=none:=by
  cases x with
  | str z =>
    obtain⟨t,rfl⟩:=r
    cases (show T = "str" from ty)
    exact⟨typeIs_str s z t,fun _ e=>nomatch e⟩
  | int i =>
    obtain⟨t,rfl⟩:=r
    cases (show T = "int" from ty)
    exact⟨typeIs_int s i t,fun _ e=>nomatch e⟩
  | ref p =>
    cases r
    rcases ty with ⟨rfl,xs,hq⟩ | ⟨rfl,o,hk,hc,hd⟩ | ⟨rfl,hk⟩ | ⟨rfl,S,n,hk⟩
    . obtain⟨its,_,pl,_⟩:=I.list hq
      refine⟨pl.isList.typeIs,fun a e=>?_⟩
      cases e
      obtain⟨o,n,e,c,hd,_⟩:=pl
      exact⟨o,e,hd⟩
    . refine⟨⟨o,I.kIn p o hk,hc⟩,fun a e=>?_⟩
      cases e
      exact⟨o,I.kIn _ o hk,hd⟩
    . have z:∃ o,s.heap.get? p=some o /\ o.ExactDict:=by
        rcases hk with ⟨kvs,hk⟩ | ⟨kvs,ep,hk⟩
        . obtain⟨_,_,_,_,o,_,_,e,ex,_⟩:=I.hok p _ hk
          exact⟨o,e,ex⟩
        . obtain⟨_,_,_,_,o,_,e,ex,_⟩:=I.hok p _ hk
          exact⟨o,e,ex⟩
      obtain⟨o,e,ex⟩:=z
      refine⟨⟨o,e,ex.1⟩,fun a e2=>?_⟩
      cases e2
      exact⟨o,e,ex.2.1⟩
    . obtain⟨o,_,_,_,e,ex,_⟩:=I.hok p _ hk
      refine⟨⟨o,e,ex.1⟩,fun a e2=>?_⟩
      cases e2
      exact⟨o,e,ex.2.1⟩
  | _=>exact False.elim ty
noncomputable def Z3T (K:Frag) (T:String) (r:V->List V->Hp->VK->Prop) (to:TE):TE:=fun σ H Q=>to σ H fun x H1=>tyV K T x H1 /\ r x [] H1 Q
noncomputable def tBM (K:Frag) (T:String) (r:V->List V->Hp->VK->Prop) (to:TE) (t:TA):TE:=fun σ H Q=>to σ H fun x H1=>tyV K T x H1 /\ t σ H1 fun xs H2=>r x xs H2 Q
variable {o e:Expr}{es:List Expr}{to:TE}{t:TA}{name:Str}{apos cpos:Pos}{T id:String}{r:V->List V->Hp->VK->Prop}
theorem Z2q (pa:PlainAttrs T) (slot:Slot T name id) (hty:typeOf (.builtin id)=pure (.type "method_descriptor")) (hm:MtR X id r) (ho:PE X o to)
    (hbase:attributeBase o name X.env (eval o X.env)=eval o X.env:=by rfl) (hline:(apos.endLine == cpos.line)=true:=by rfl):PE X (.Call (.Attribute o name apos) [] [] cpos) (Z3T X.K T r to):=by
  intro pins s σ H Q I h
  refine wpAny_Call_method0_late hbase hline (thn (ho pins s σ H _ I h) fun v s1 ⟨x,H1,I1,r1,ty,q1⟩=>?_)
  obtain⟨h1,h2⟩:=S7 I1 r1 ty
  exact⟨T,id,pa,slot,hty,h1,h2,Calls.callWith_builtin rfl (PySem.evalArgs_none (hm pins s1 σ H1 x [] v [] Q I1 r1 .nil q1))⟩
theorem Z1G (pa:PlainAttrs T) (slot:Slot T name id) (hty:typeOf (.builtin id)=pure (.type "method_descriptor")) (hm:MtR X id r) (ho:PE X o to) (ha:PA X (e :: es) t)
    (hbase:attributeBase o name X.env (eval o X.env)=eval o X.env:=by rfl)
    (hfew:((backTo cpos (starEach (e :: es) X.env)).all (fun x=>!x.1) && (backToKw cpos (keywordEach [] X.env)).all (fun x=>x.1.isSome)
      && decide ((e :: es).length + ([]:List Keyword).length + (if ([]:List Keyword).isEmpty then 0 else 1) < 30))=true:=by rfl)
    (hline:(apos.endLine == cpos.line)=true:=by rfl) (hs:starEach (e :: es) X.env=(false,eval e X.env) :: starEach es X.env:=by rfl) (hplain:(backTo cpos (starEach es X.env)).any (·.1)=false:=by rfl) :
    PE X (.Call (.Attribute o name apos) (e :: es) [] cpos) (tBM X.K T r to t):=by
  intro pins s σ H Q I h
  refine wpAny_Call_method_late hbase hfew hline rfl (thn (ho pins s σ H _ I h) fun v s1 ⟨x,H1,I1,r1,ty,q1⟩=>?_)
  obtain⟨h1,h2⟩:=S7 I1 r1 ty
  refine⟨T,id,pa,slot,hty,h1,h2,?_⟩
  have hA:=ha cpos pins s1 σ H1 _ I1 q1
  rw [hs] at hA ⊢
  refine Calls.callWith_builtin (by show (false || (backTo cpos (starEach es X.env)).any (·.1))=false;rw [hplain] <;> rfl) (Calls.evalArgs_plain ?_)
  exact thn hA fun us s2 ⟨vs,H2,I2,r2,q2⟩=>hm pins s2 σ H2 x vs v us Q I2 r1 r2 q2
end
noncomputable def MtM (X:Cx) (id:String) (r:V->List V->Hp->VK->Prop):Prop :=
  ∀ (pins:List (Addr × Obj)) (s:Shared) (σ:St) (H:Hp) (x:V) (xs:List V) (v:Value) (us:List Value) (Q:VK),Inv X pins σ H s->RelV x v->Vals xs us->r x xs H Q ->
    wpAny (model X.prog X.w) X.A (call (.builtin id) (v :: us)) (EP X pins σ Q) X.xe s
theorem Vals.one:∀ {x:V}{us:List Value},Vals [x] us->∃ u,us=[u] /\ RelV x u
  | _,_,.cons r .nil=>⟨_,rfl,r⟩
theorem Vals.two:∀ {x y:V}{us:List Value},Vals [x,y] us->∃ u v,us=[u,v] /\ RelV x u /\ RelV y v
  | _,_,_,.cons r (.cons q .nil)=>⟨_,_,rfl,r,q⟩
theorem Vals.zero:∀ {us:List Value},Vals [] us->us=[]
  | _,.nil=>rfl
section
variable {X:Cx}{pins:List (Addr × Obj)}{σ:St}{H:Hp}{s:Shared}{l b:Addr}{xs ys zs:List V}
theorem Inv.lset {its its':List Value}{n:Nat}{f:Array Value->Array Value}{t':Nat}(I:Inv X pins σ H s) (hH:H l=some (.lst xs))
    (e:s.heap.get? l=some { cls:=.type "list",data:=.seq its.toArray n }) (hf:f its.toArray=its'.toArray) (hv:Vals ys its') (hz:ys.length <= sizeLine) :
    Inv X pins σ (upd H l (.lst ys)) { s with heap:=s.heap.update l (Obj.mapSeq f),toks:=t' }:=by
  have q:=PySem.IsL.update e f
  rw [hf] at q
  refine I.write (x:=l) (e:=l) (by rw [hH];exact trivial) (.inl rfl) (fun b' u hb hu=>(Heap.get?_update_other s.heap (Obj.mapSeq f) (Ne.symm hb)).trans hu) ⟨_,q⟩ ?_
  exact⟨hz,its',_,hv,q⟩
theorem Inv.lnew {its:List Value}{t':Nat}(I:Inv X pins σ H s) (hv:Vals ys its) (hz:ys.length <= sizeLine) :
    Inv X pins σ (upd H s.heap.objs.size (.lst ys)) { s with heap:=s.heap.push { cls:=.type "list",data:=.seq its.toArray },toks:=t' } :=
  I.laid (fun _ _ q=>Heap.get?_push_of_some _ q) (Nat.le_refl _) ⟨hz,its,0,hv,Heap.get?_push_size _ rfl⟩
theorem Inv.fresh (I:Inv X pins σ H s):H s.heap.objs.size=none:=I.hok.fresh (Nat.le_refl _)
theorem Inv.lstM (I:Inv X pins σ H s) (hH:H l=some (.lst xs)):xs.length <= sizeLine /\ ∃ (its:List Value) (n:Nat),Vals xs its /\ xs.length=its.length /\ s.heap.get? l=some { cls:=.type "list",data:=.seq its.toArray n }:=by
  obtain⟨z,its,n,r,e⟩:=I.hok l _ hH
  exact⟨z,its,n,r,r.length,e⟩
end
section
variable {X:Cx}
noncomputable def D1:V->List V->Hp->VK->Prop:=fun x vs H Q=>∃ l xs y,x=.ref l /\ vs=[y] /\ H l=some (.lst xs) /\ xs.length < sizeLine /\ Q .non (upd H l (.lst (xs ++ [y])))
theorem tV:MtM X "list.append" D1:=by
  intro pins s σ H x vs v us Q I rx rv h
  obtain⟨l,xs,y,rfl,rfl,hH,hz,q⟩:=h
  cases rx
  obtain⟨u,rfl,ru⟩:=rv.one
  obtain⟨z,its,n,r,hl,e⟩:=I.lstM hH
  refine call_meets F.slot_list_append ⟨_,e,rfl⟩ F.entry_list_append (F.args_list_append_2 _ _) (PySem.list_append l its.toArray n u (by rw [List.size_toArray];omega)) ⟨e,?_⟩
  refine⟨.non,_,I.lset (its':=its ++ [u]) hH e (by simp) (r.append (.cons ru .nil)) ?_,rfl,q⟩
  rw [List.length_append,List.length_singleton]
  omega
noncomputable def Z35:R2:=fun x y H Q=>∃ l b xs zs,x=.ref l /\ y=.ref b /\ H l=some (.lst xs) /\ H b=some (.lst zs) /\ xs.length + zs.length <= sizeLine /\ ∀ p,H p=none->Q (.ref p) (upd H p (.lst (xs ++ zs)))
theorem X1:OpR X (binaryOp .Add) Z35:=by
  intro pins s σ H x y v u Q I rx ry h
  obtain⟨l,b,xs,zs,rfl,rfl,hH,hB,hz,q⟩:=h
  cases rx
  cases ry
  obtain⟨z,its,n,r,hl,e⟩:=I.lstM hH
  obtain⟨z2,its2,n2,r2,hl2,e2⟩:=I.lstM hB
  refine PySem.P.add_list e e2 ?_ (by rw [List.size_toArray,List.size_toArray];omega)
  have ea:its.toArray ++ its2.toArray=(its ++ its2).toArray:=by simp
  rw [ea]
  exact⟨.ref _,_,I.lnew (t':=s.toks) (r.append r2) (by rw [List.length_append];omega),rfl,q _ I.fresh⟩
end
section
variable {prog:Program}{w:World}{A:Around}{E:Value->Shared->Prop}{s:Shared}
set_option maxRecDepth 100000 in
end
section
variable {X:Cx}
end
end L2
namespace Att
open PySem PySem.W PySem.Calls PyProof.Rows
theorem qC {P:Params}{h:Heap}:∀ (ns:List Int) (vs:List Value),WellAll P h vs (ns.map WData.int)->IntsAre vs ns:=by
  intro ns
  induction ns with
  | nil =>
    intro vs w
    rw [List.map_nil] at w
    cases w
    exact .nil
  | cons n ns ih =>
    intro vs w
    rw [List.map_cons] at w
    cases w with
    | cons a b =>
      cases a
      exact .cons _ _ (ih _ b)
theorem L1 {l:OpenLaw}{n:Nat}(hn:l.most=some n) {P:Params}{h:Heap}{args:List WData}{vals:List Value}
    (hpre:l.row.toRowW.claim.pre args=true) (hwl:WellAll P h vals args) :
    ∃ a vs ns,vals=[Value.ref a] /\ args=[WData.list (ns.map WData.int)] /\ h.get? a=some { cls:=.type "list",data:=.seq vs.toArray } /\ IntsAre vs ns /\ ns.length <= n:=by
  have hsh:WShape.hasAll [] args [.list .int]=true:=(pre_splitW hpre).1
  have hc:l.pre.holds [] { args:=args }=true:=(pre_splitW hpre).2
  obtain⟨d,r,rfl,h1,h2⟩:=hasAllW_cons hsh
  obtain rfl:=hasAllW_nil h2
  obtain⟨xs,rfl,h3⟩:=hasW_list h1
  obtain⟨ns,rfl⟩:=items_int h3
  have hlen:ns.length <= n:=by
    unfold OpenLaw.pre at hc
    have h4:(WTm.not (.lt (.lit (.int (n:Int))) (.len (.arg 0)))).holds [] { args:=[.list (ns.map .int)] }=true:=by
      have h4:=(holds_andW hc).1
      rw [hn] at h4
      exact h4
    have h5:=condW_of h4 (w_not (w_lt w_lit (w_len_list (w_arg rfl))))
    rw [List.length_map] at h5
    refine Nat.le_of_not_lt fun q=>?_
    have q':(n:Int) < ((ns.length:Nat):Int):=by omega
    first
      | (rw [decide_eq_true q'] at h5;exact absurd h5 (by decide))
      | (simp at h5;omega)
  cases hwl with
  | cons w1 w2 =>
    cases w2
    cases w1 with
    | list ho hall=>exact⟨_,_,ns,rfl,rfl,ho,qC ns _ hall,hlen⟩
theorem M8 (l:OpenLaw) (args:List WData):l.row.toRowW.claim.post args (.bool true) args=true :=
  postW_of (r:=l.row.toRowW) (X:=(true == true))
    (show WShape.has [] (.bool true) .bool=true by first | rfl | decide | simp [WShape.has,WShape.arms,WShape.armsAll])
    (show (WTm.eq .res (.lit (.bool true))).value [] { args:=args,res:=some (.bool true),after:=args }=some (.bool (true == true)) from w_eq_bool (w_res rfl) w_lit) rfl
section
variable {prog:Program}{w:World}{A:Around}{E:Value->Shared->Prop}{s:Shared}{K:Frag}
end
end Att
namespace L2
open PySem PySem.Spec PyProof.Rows
theorem kF:∀ {vs:List Value}{ns:List Int},IntsAre vs ns->Vals (ns.map V.int) vs
  | _,_,.nil=>.nil
  | _,_,.cons n t h=>.cons ⟨t,rfl⟩ (kF h)
noncomputable def Z1e (s:Stmt) (j:Nat):Stmt:=match s with
  | .ClassDef _ _ _ body _ _ _ _ _ _ _=>body.getD j (.Pass ⟨0,0,0,0⟩)
  | _=>.Pass ⟨0,0,0,0⟩
noncomputable def aJ (s:Stmt):Arguments:=match s with
  | .FunctionDef _ a _ _ _ _ _ _ _ _=>a
  | _=>{ posonlyargs:=[],args:=[],vararg:=none,kwonlyargs:=[],kw_defaults:=[],kwarg:=none,defaults:=[] }
noncomputable def aI (s:Stmt):List Stmt:=match s with
  | .FunctionDef _ _ b _ _ _ _ _ _ _=>b
  | _=>[]
noncomputable def aE (s:Stmt):Scope:=match s with
  | .FunctionDef _ _ _ _ _ _ sc _ _ _=>sc
  | _=>{ kind:=.function,names:=[],isGenerator:=false,isCoroutine:=false }
noncomputable abbrev CX0:CXT:=fun _ _ _ _ _ _=>False
noncomputable abbrev E0:XK:=fun _ _ _=>False
theorem W5 {X:Cx}:sL CX0 X E0:=fun _ _ _ _ _ _ _ h=>h.elim
structure Fun (K:Frag) (x qual:Str) (st:Stmt) (f:Addr) (fd:FuncData):Prop where
  ex:∃ (oc:Value) (od:Option Addr) (kV doc pm:Value) (an:Option Addr) (cdv ct:Value) (osl:Array (Option Value)),
    fd=fnOf x qual (aJ st) (aI st) (aE st) .none kV doc pm an cdv ct /\ K.lookup f=some ⟨oc,od,.func fd,osl⟩ /\ codeIn K cdv qual=true
  kp:keepIn K (.ref f)=true
section
variable {P:Program}{w:World}{K:Frag}{mg:Str->Option Value}{base:Heap}
theorem Fun.ok {x qual:Str}{st:Stmt}{f:Addr}{fd:FuncData}{N ps:List Str}{k:Nat}{sp:Sp}(F:Fun K x qual st f fd) (S:aT N ps (aE st)) (len:∀ vs H Q E,sp vs H Q E->vs.length=ps.length)
    (hbody:∀ (cdv:Value) (A:Around) (outer:List Env) (s:Shared) (H:Hp) (vs:List V) (Q:VK) (E:XK),Room k (A.deeper (envOfC qual (aE st) s.heap.objs.size f cdv))->sp vs H Q E ->
      ∃ t,PSs (pG CX0 P w K mg base N qual (aE st) f cdv A outer s H E).nox (aI st) t /\ t { nx:=fun _ H'=>Q .non H',rt:=Q } (start N vs) H):FnOk P w K mg base CX0 (k + 1) f fd ps sp:=by
  obtain⟨oc,od,kV,doc,pm,an,cdv,ct,osl,rfl,lk,hcd⟩:=F.ex
  refine J1 lk hcd S len fun A outer s H vs Q E hr hsp=>?_
  obtain⟨t,h,q⟩:=hbody cdv A outer s H vs Q E hr hsp
  exact⟨t,h.nox,q⟩
theorem Fun.binds {x qual:Str}{st:Stmt}{f:Addr}{fd:FuncData}{ps:List Str}(F:Fun K x qual st f fd)
    (h:∀ (kV doc pm:Value) (an:Option Addr) (cdv ct:Value) (us:List Value),us.length=ps.length->bindArgs (fnOf x qual (aJ st) (aI st) (aE st) .none kV doc pm an cdv ct) ⟨us,[]⟩=pure (ps.zip us)):Binds K fd ps []:=by
  obtain⟨oc,od,kV,doc,pm,an,cdv,ct,osl,rfl,lk,hcd⟩:=F.ex
  exact .all (h kV doc pm an cdv ct)
end
theorem Z8 {A:Around}{k:Nat}(hr:Room k A):A.units + 1 < cLine:=Nat.lt_of_le_of_lt (Nat.add_le_add_left (by decide:1 <= 64) _) hr.units
theorem kI {n:Nat}(h:n <= 1000):n < sizeLine:=Nat.lt_of_le_of_lt h (by decide)
section
variable {X:Cx}
theorem pv (i:Nat) {x:Str}{pos:Pos}(hN:X.N[i]? = some x:=by rfl) (hv:Vis X.env.scope x:=by first | exact Or.inl rfl | exact Or.inr (Or.inl rfl) | exact Or.inr (Or.inr rfl)) (hd:(x == ("__debug__" : Str))=false:=by decide)
    (hcd:(x == ("__classdict__" : Str))=false:=by decide):PE X (.Name x pos) (wJ i):=iK hN hv hd hcd
end
theorem O9 {A B:Prop}(h:B):if false=true then A else B:=by
  rw [if_neg Bool.false_ne_true]
  exact h
theorem O8 {A B:Prop}(h:A):if true=true then A else B:=by
  rw [if_pos rfl]
  exact h
noncomputable def Same (H H':Hp):Prop:=∀ b o,H b=some o->H' b=some o
theorem Same.refl (H:Hp):Same H H:=fun _ _ h=>h
theorem Same.trans {H H1 H2:Hp}(a:Same H H1) (b:Same H1 H2):Same H H2:=fun c o h=>b c o (a c o h)
theorem Same.free {H H':Hp}(e:Same H H') {l:Addr}(h:H' l=Option.none):H l=Option.none:=by
  cases q:H l with
  | none=>rfl
  | some o =>
    rw [e l o q] at h
    cases h
theorem Same.seq {K:Frag}{H H':Hp}{a:Addr}{xs:List V}(e:Same H H') (h:SqL K H a xs):SqL K H' a xs:=by
  rcases h with (h | ⟨o,h⟩) | h
  . exact .inl (.inl (e _ _ h))
  . exact .inl (.inr ⟨o,e _ _ h⟩)
  . exact .inr h
section
variable {κ:Type}[DecidableEq κ]
noncomputable def jL (kvs:List (κ × V)) (k:κ):Option V:=(kvs.find? fun kv=>decide (kv.1=k)).map (·.2)
noncomputable def lB (kvs:List (κ × V)) (k:κ) (v:V):List (κ × V) :=
  if (kvs.any fun kv=>decide (kv.1=k))=true then kvs.map (fun kv=>if kv.1=k then (kv.1,v) else kv) else kvs ++ [(k,v)]
noncomputable def Z1M (kvs:List (κ × V)) (k:κ):List (κ × V):=kvs.filter fun kv=>decide (kv.1 ≠ k)
theorem nM {p:κ × V}{r:List (κ × V)}{k:κ}(e:p.1=k):jL (p :: r) k=some p.2:=by simp [jL,List.find?_cons,e]
theorem nN {p:κ × V}{r:List (κ × V)}{k:κ}(e:¬ p.1=k):jL (p :: r) k=jL r k:=by simp [jL,List.find?_cons,e]
theorem qV (k:κ):∀ kvs:List (κ × V),(kvs.any fun kv=>decide (kv.1=k))=(jL kvs k).isSome
  | []=>rfl
  | p :: r=>by
    rw [List.any_cons]
    by_cases e:p.1=k
    . simp only [nM e,decide_eq_true e,Bool.true_or,Option.isSome_some]
    . rw [nN e,decide_eq_false e,Bool.false_or];exact qV k r
theorem lZ (kvs:List (κ × V)) (k:κ) (v:V):(lB kvs k v).length <= kvs.length + 1:=by
  unfold lB
  split
  . rw [List.length_map];omega
  . rw [List.length_append,List.length_cons,List.length_nil];omega
theorem V9 {kvs:List (κ × V)}{k:κ}(v:V) (h:jL kvs k=none):lB kvs k v=kvs ++ [(k,v)]:=by
  unfold lB
  rw [qV,h]
  exact if_neg (by decide)
theorem RelO.isSome_eq {o:Option V}{u:Option Value}(r:RelO o u):o.isSome=u.isSome:=by
  cases o with
  | none=>cases u with
    | none=>rfl
    | some _=>exact (show False from r).elim
  | some _=>cases u with
    | none=>exact (show False from r).elim
    | some _=>rfl
theorem RelO.getD {o:Option V}{u:Option Value}{d:V}{d':Value}(r:RelO o u) (rd:RelV d d'):RelV (o.getD d) (u.getD d'):=by
  cases o with
  | none=>cases u with
    | none=>exact rd
    | some _=>exact (show False from r).elim
  | some _=>cases u with
    | none=>exact (show False from r).elim
    | some _=>exact r
theorem KV.val {kvs:List (κ × V)}{vs:List (κ × Value)}(r:KV kvs vs) (k:κ):RelO (jL kvs k) (valueAt vs k):=by
  unfold KV at r
  induction r with
  | nil=>exact True.intro
  | @cons p q ps qs h t ih =>
    obtain⟨h1,h2⟩:=h
    by_cases e:p.1=k
    . have e':q.1=k:=h1.symm.trans e
      have b:valueAt (q :: qs) k=some q.2:=by simp [valueAt,List.find?_cons,e']
      rw [nM e,b];exact h2
    . have e':¬ q.1=k:=fun z=>e (h1.trans z)
      have b:valueAt (q :: qs) k=valueAt qs k:=by simp [valueAt,List.find?_cons,e']
      rw [nN e,b];exact ih
theorem KV.any {kvs:List (κ × V)}{vs:List (κ × Value)}(r:KV kvs vs) (k:κ):(kvs.any fun kv=>decide (kv.1=k))=vs.any fun kv=>decide (kv.1=k):=by
  unfold KV at r
  induction r with
  | nil=>rfl
  | cons h t ih=>rw [List.any_cons,List.any_cons,ih,h.1]
theorem KV.repl {kvs:List (κ × V)}{vs:List (κ × Value)}(r:KV kvs vs) (k:κ) {y:V}{u:Value}(ry:RelV y u) :
    KV (kvs.map fun kv=>if kv.1=k then (kv.1,y) else kv) (vs.map fun kv=>if kv.1=k then (kv.1,u) else kv):=by
  unfold KV at r ⊢
  induction r with
  | nil=>exact .nil
  | @cons p q ps qs h t ih =>
    rw [List.map_cons,List.map_cons]
    refine .cons ?_ ih
    obtain⟨h1,h2⟩:=h
    by_cases e:p.1=k
    . rw [if_pos e,if_pos (h1.symm.trans e)];exact⟨h1,ry⟩
    . rw [if_neg e,if_neg (fun z=>e (h1.trans z))];exact⟨h1,h2⟩
theorem KV.put {kvs:List (κ × V)}{vs:List (κ × Value)}(r:KV kvs vs) (k:κ) {y:V}{u:Value}(ry:RelV y u):KV (lB kvs k y) (stored vs k u):=by
  unfold lB stored
  rw [r.any k]
  by_cases e:(vs.any fun kv=>decide (kv.1=k))=true
  . rw [if_pos e,if_pos e];exact r.repl k ry
  . rw [if_neg e,if_neg e];exact Paired.snoc r ⟨rfl,ry⟩
theorem KV.drop {kvs:List (κ × V)}{vs:List (κ × Value)}(r:KV kvs vs) (k:κ):KV (Z1M kvs k) (without vs k):=by
  unfold KV at r ⊢
  unfold Z1M without
  induction r with
  | nil=>exact .nil
  | @cons p q ps qs h t ih =>
    obtain⟨h1,h2⟩:=h
    rw [List.filter_cons,List.filter_cons]
    by_cases e:p.1=k
    . have a:¬ decide (p.1 ≠ k)=true:=by simp [e]
      have b:¬ decide (q.1 ≠ k)=true:=by simp [h1.symm.trans e]
      rw [if_neg a,if_neg b];exact ih
    . have e':¬ q.1=k:=fun z=>e (h1.trans z)
      have a:decide (p.1 ≠ k)=true:=by simp [e]
      have b:decide (q.1 ≠ k)=true:=by simp [e']
      rw [if_pos a,if_pos b];exact .cons ⟨h1,h2⟩ ih
theorem KV.keys {kvs:List (κ × V)}{vs:List (κ × Value)}(r:KV kvs vs):kvs.map (·.1)=vs.map (·.1):=by
  unfold KV at r
  induction r with
  | nil=>rfl
  | cons h t ih=>rw [List.map_cons,List.map_cons,ih,h.1]
theorem KV.length {kvs:List (κ × V)}{vs:List (κ × Value)}(r:KV kvs vs):kvs.length=vs.length:=Paired.length r
end
theorem E4 {P:Program}{w:World}{k:Key}{u:Value}(r:RelV (kV k) u):(cQ P w).is k u=true:=by
  cases k with
  | inl i=>obtain⟨t,e⟩:=(show ∃ t,u=Value.int i t from r);subst e;exact xJ P w i t
  | inr x=>obtain⟨t,e⟩:=(show ∃ t,u=Value.str x t from r);subst e;exact xI P w x t
theorem oZ {P:Program}{w:World}:∀ {ks:List Key}{us:List Value},Vals (ks.map kV) us->ItemsAre (cQ P w) ks us
  | [],_,r=>by rw [List.map_nil] at r;cases r;exact .nil
  | k :: ks,_,r=>by
    rw [List.map_cons] at r
    cases r with
    | cons h t=>exact .cons (E4 h) (oZ t)
noncomputable abbrev KT (H:Hp):List (List Key × V)->List (List Key × Addr × Value)->Prop:=Paired fun p q=>p.1=q.1 /\ H q.2.1=some (.tup (p.1.map kV)) /\ RelV p.2 q.2.2
theorem KT.val {H:Hp}{kvs:List (List Key × V)}{xs:List (List Key × Addr × Value)}(r:KT H kvs xs) (k:List Key):RelO (jL kvs k) ((atKey xs k).map (·.2)):=by
  induction r with
  | nil=>exact True.intro
  | @cons p q ps qs h t ih =>
    obtain⟨h1,_,h2⟩:=h
    by_cases e:p.1=k
    . have e':q.1=k:=h1.symm.trans e
      have b:atKey (q :: qs) k=some q.2:=by simp [atKey,List.find?_cons,e']
      rw [nM e,b];exact h2
    . have e':¬ q.1=k:=fun z=>e (h1.trans z)
      have b:atKey (q :: qs) k=atKey qs k:=by simp [atKey,List.find?_cons,e']
      rw [nN e,b];exact ih
theorem KT.repl {H:Hp}{kvs:List (List Key × V)}{xs:List (List Key × Addr × Value)}(r:KT H kvs xs) (k:List Key) {y:V}{u:Value}(ry:RelV y u) :
    KT H (kvs.map fun kv=>if kv.1=k then (kv.1,y) else kv) (xs.map (putAt k u)):=by
  induction r with
  | nil=>exact .nil
  | @cons p q ps qs h t ih =>
    rw [List.map_cons,List.map_cons]
    refine .cons ?_ ih
    obtain⟨h1,h2,h3⟩:=h
    unfold putAt
    by_cases e:p.1=k
    . rw [if_pos e,if_pos (h1.symm.trans e)];exact⟨h1,h2,ry⟩
    . rw [if_neg e,if_neg (fun z=>e (h1.trans z))];exact⟨h1,h2,h3⟩
theorem KT.put {H:Hp}{kvs:List (List Key × V)}{xs:List (List Key × Addr × Value)}(r:KT H kvs xs) (k:List Key) {b:Addr}{y:V}{u:Value}(hb:H b=some (.tup (k.map kV))) (ry:RelV y u) :
    KT H (lB kvs k y) (storedH xs k b u):=by
  have e:(kvs.any fun kv=>decide (kv.1=k))=(atKey xs k).isSome:=by
    rw [qV,(r.val k).isSome_eq,Option.isSome_map]
  unfold lB storedH
  rw [e]
  by_cases q:(atKey xs k).isSome=true
  . rw [if_pos q,if_pos q];exact r.repl k ry
  . rw [if_neg q,if_neg q];exact Paired.snoc r ⟨rfl,hb,ry⟩
theorem KT.keeps {H H':Hp}{kvs:List (List Key × V)}{xs:List (List Key × Addr × Value)}(r:KT H kvs xs) (ht:∀ b ys,H b=some (.tup ys)->H' b=some (.tup ys)):KT H' kvs xs :=
  Paired.mapP r fun _ _ z=>⟨z.1,ht _ _ z.2.1,z.2.2⟩
section
variable {P:Program}{w:World}{H:Hp}{h:Heap}{a:Addr}
theorem Z1D {u:HO}(ok:HOk P w H h) (e:Rd H a u):ObjOk P w H h a u:=e.ok ok
theorem Z1N {kvs:List (Key × V)}(ok:HOk P w H h) (e:Rd H a (.dK kvs)):kvs.length <= sizeLine /\ (a == sysModules)=false /\ ∃ vs,KV kvs vs /\ h.DictOf (cQ P w) a vs :=
  show ObjOk P w H h a (.dK kvs) from Z1D ok e
theorem J3 {kvs:List (Key × V)}(ok:HOk P w H h) (e:H a=some (.dK kvs)):kvs.length <= sizeLine /\ (a == sysModules)=false /\ ∃ vs,KV kvs vs /\ h.DictOf (cQ P w) a vs:=Z1N ok (.inl e)
theorem A0 {ks:List Key}(ok:HOk P w H h) (e:H a=some (.tup (ks.map kV))):(tupleKind (cQ P w)).is h ks a:=by
  obtain⟨_,its,r,o,h1,h2,n,h3⟩:=(show ObjOk P w H h a (.tup (ks.map kV)) from ok a _ e)
  exact⟨o,its.toArray,n,h1,h2,h3,by simpa using oZ r⟩
theorem Z1L {kvs:List (List Key × V)}(ok:HOk P w H h) (e:Rd H a (.dT kvs)):kvs.length <= sizeLine /\ (a == sysModules)=false /\
    ∃ xs,KT H kvs xs /\ h.DictOfH (tupleKind (cQ P w)) a xs:=by
  obtain⟨z,y,xs,r,o,es,ep,h1,h2,h3,h4,h5⟩:=(show ObjOk P w H h a (.dT kvs) from Z1D ok e)
  refine⟨z,y,xs,r,o,es,ep,h1,h2,h3,h4,fun x hx=>?_,h5⟩
  have all:∀ {l:List (List Key × V)}{m:List (List Key × Addr × Value)},KT H l m->∀ x ∈ m,(tupleKind (cQ P w)).is h x.1 x.2.1:=by
    intro l m q
    induction q with
    | nil=>intro x hx;exact nomatch hx
    | @cons p q ps qs hq t ih =>
      intro x hx
      rcases List.mem_cons.mp hx with e | hx
      . subst e
        exact A0 ok (by rw [<- hq.1];exact hq.2.1)
      . exact ih x hx
  exact all r x hx
theorem Z3y {kvs:List (List Key × V)}(ok:HOk P w H h) (e:H a=some (.dT kvs)):kvs.length <= sizeLine /\ (a == sysModules)=false /\
    ∃ xs,KT H kvs xs /\ h.DictOfH (tupleKind (cQ P w)) a xs:=Z1L ok (.inl e)
end
noncomputable def DGet (H:Hp) (a:Addr) (y:V) (r:Option V):Prop :=
  (∃ kvs k,Rd H a (.dK kvs) /\ y=kV k /\ r=jL kvs k) \/ ∃ kvs k b,Rd H a (.dT kvs) /\ y=.ref b /\ H b=some (.tup (k.map kV)) /\ r=jL kvs k
noncomputable def DPut (H:Hp) (a:Addr) (y v:V) (H':Hp):Prop :=
  (∃ kvs k,H a=some (.dK kvs) /\ y=kV k /\ kvs.length < sizeLine /\ H'=upd H a (.dK (lB kvs k v))) \/
  ∃ kvs k b,H a=some (.dT kvs) /\ y=.ref b /\ H b=some (.tup (k.map kV)) /\ kvs.length < sizeLine /\ H'=upd H a (.dT (lB kvs k v))
theorem DGet.k {H:Hp}{a:Addr}{kvs:List (Key × V)}{k:Key}(e:H a=some (.dK kvs)):DGet H a (kV k) (jL kvs k):=.inl ⟨kvs,k,.inl e,rfl,rfl⟩
theorem DGet.t {H:Hp}{a b:Addr}{kvs:List (List Key × V)}{k:List Key}(e:H a=some (.dT kvs)) (eb:H b=some (.tup (k.map kV))):DGet H a (.ref b) (jL kvs k):=.inr ⟨kvs,k,b,.inl e,rfl,eb,rfl⟩
theorem DPut.k {H:Hp}{a:Addr}{kvs:List (Key × V)}{k:Key}{v:V}(e:H a=some (.dK kvs)) (hl:kvs.length < sizeLine):DPut H a (kV k) v (upd H a (.dK (lB kvs k v))):=.inl ⟨kvs,k,e,rfl,hl,rfl⟩
theorem DPut.t {H:Hp}{a b:Addr}{kvs:List (List Key × V)}{k:List Key}{v:V}(e:H a=some (.dT kvs)) (eb:H b=some (.tup (k.map kV))) (hl:kvs.length < sizeLine) :
    DPut H a (.ref b) v (upd H a (.dT (lB kvs k v))):=.inr ⟨kvs,k,b,e,rfl,eb,hl,rfl⟩
section
variable {X:Cx}{pins:List (Addr × Obj)}{σ:St}{H:Hp}{s:Shared}{a:Addr}{y v:V}{u r:Value}{o:Option V}{A:Around}{E:Value->Shared->Prop}
theorem Inv.big (I:Inv X pins σ H s):sysModules < s.heap.objs.size:=by
  have h:mainGlobals < s.heap.objs.size:=(I.mod.glob.keeps I.bk).lt
  exact Nat.lt_trans (by decide) h
theorem Z4e {Q:Value->Shared->Prop}(hu:A.units + 1 < cLine) (I:Inv X pins σ H s) (g:DGet H a y o) (ry:RelV y u) (h:∀ s',Inv X pins σ H s'->Q (.bool o.isSome) s') :
    wpAny (model X.prog X.w) A (compareOp .In u (.ref a)) Q E s:=by
  rcases g with ⟨kvs,k,e,ey,l⟩ | ⟨kvs,k,b,e,ey,eb,l⟩
  . subst ey
    obtain⟨z,hd,vs,rel,dd⟩:=Z1N I.hok e
    refine wpAny_in_of (E4 ry) hd dd.mapOf ?_
    rw [<- (rel.val k).isSome_eq,<- l]
    exact h _ (I.tok _)
  . subst ey
    cases (show u=Value.ref b from ry)
    obtain⟨z,hd,xs,rel,dd⟩:=Z1L I.hok e
    refine wpAny_in_heap (tupleKind_room_in1 hu) (A0 I.hok eb) hd dd ?_
    have q:=(rel.val k).isSome_eq
    rw [Option.isSome_map] at q
    rw [<- q,<- l]
    exact h _ (I.tok _)
theorem vO {h':Heap}{t':Nat}{ob:HO}(I:Inv X pins σ H s) (mu:Mut (H a)) (hs:Heap.SameBut a s.heap h') (he:∃ q,h'.get? a=some q) (new:ObjOk X.prog X.w (upd H a ob) h' a ob) :
    Inv X pins σ (upd H a ob) { s with heap:=h',toks:=t' } :=
  I.write (x:=a) (e:=a) mu (.inl rfl) (fun b q hb z=>(hs.2 b hb).trans z) he new
theorem Z09 {P:Program}{w:World}{H':Hp}{h':Heap}{kvs:List (Key × V)}{vs:List (Key × Value)}(z:kvs.length <= sizeLine) (hd:(a == sysModules)=false) (rel:KV kvs vs) (dd:h'.DictOf (cQ P w) a vs) :
    ObjOk P w H' h' a (.dK kvs):=⟨z,hd,vs,rel,dd⟩
theorem Q0 {H':Hp}{Q:Unit->Shared->Prop}(hu:A.units + 1 < cLine) (I:Inv X pins σ H s) (g:DPut H a y v H') (ry:RelV y u) (rv:RelV v r) (h:∀ s',Inv X pins σ H' s'->Q () s') :
    wpAny (model X.prog X.w) A (setItem (.ref a) u r) Q E s:=by
  rcases g with ⟨kvs,k,e,ey,l,eH⟩ | ⟨kvs,k,b,e,ey,eb,l,eH⟩
  . subst ey eH
    obtain⟨z,hd,vs,rel,dd⟩:=J3 I.hok e
    have hz:vs.length <= sizeLine:=by rw [<- rel.length];exact z
    have hl:(lB kvs k v).length <= sizeLine:=by have:=lZ kvs k v;omega
    refine wpAny_setItem_pairs (hsz:=hz) (E4 ry) dd fun h' dd' hs=>h _ ?_
    have he:∃ q,h'.get? a=some q:=let ⟨q,_,_,hq,_⟩:=dd';⟨q,hq⟩
    exact vO I (by rw [e];exact True.intro) hs he (Z09 hl hd (rel.put k rv) dd')
  . subst ey eH
    cases (show u=Value.ref b from ry)
    obtain⟨z,hd,xs,rel,dd⟩:=Z3y I.hok e
    have hz:xs.length <= sizeLine:=by rw [<- Paired.length rel];exact z
    have hl:(lB kvs k v).length <= sizeLine:=by have:=lZ kvs k v;omega
    refine wpAny_setItem_heap (hsz:=hz) (tupleKind_room_in1 hu) (A0 I.hok eb) dd fun h' dd' hs=>h _ ?_
    obtain⟨q,es,ep,hq,h2,h3,h4,_,h5⟩:=dd'
    refine vO I (by rw [e];exact True.intro) hs ⟨q,hq⟩ ⟨hl,hd,_,(rel.put k eb rv).keeps fun c ys ec=>?_,q,es,ep,hq,h2,h3,h4,h5⟩
    rw [aM (Z3l ec e (fun z=>nomatch z))]
    exact ec
end
section
variable {X:Cx}{pins:List (Addr × Obj)}{σ:St}{H:Hp}{s:Shared}{a:Addr}{kvs:List (Key × V)}{k:Key}{u:Value}{A:Around}{E:Value->Shared->Prop}
end
noncomputable def Z3S (ty td:TE):TE:=fun σ H Q=>ty σ H fun y H1=>td σ H1 fun x H2=>∃ a o,x=.ref a /\ DGet H2 a y o /\ Q (.bl o.isSome) H2
noncomputable def Z2Z (td ty tv:TE):TS:=fun D σ H=>tv σ H fun v H1=>td σ H1 fun x H2=>ty σ H2 fun y H3=>∃ a H4,x=.ref a /\ DPut H3 a y v H4 /\ D.nx σ H4
section
variable {X:Cx}{o i e value:Expr}{pos pos' tpos:Pos}{td ty tv:TE}
theorem Z2r (hu:X.A.units + 1 < cLine) (hi:PE X i ty) (ho:PE X o td):PC X .In i o (Z3S ty td):=by
  intro pins s σ H Q I h
  refine thn (hi pins s σ H _ I h) fun iv s1 ⟨y,H1,I1,ry,q1⟩=>thn (ho pins s1 σ H1 _ I1 q1) fun u s2 ⟨x,H2,I2,rx,a,ov,ex,g,q2⟩=>?_
  subst ex
  obtain rfl:u=Value.ref a:=rx
  exact Z4e hu I2 g ry fun s3 I3=>⟨.bl ov.isSome,H2,I3,rfl,q2⟩
theorem Z0V (hu:X.A.units + 1 < cLine) (ho:PE X o td) (hi:PE X i ty) (hv:PE X value tv) (hs:swapsWith value (some (.Subscript o i pos')) pos.line X.env=pure false) :
    PS X (.Assign [.Subscript o i pos'] value pos) (Z2Z td ty tv):=by
  intro pins s σ H D I h
  refine wpAny_Assign_Subscript (thn (hv pins s σ H _ I h) fun r s1 ⟨v,H1,I1,rv,q1⟩=>thn (ho pins s1 σ H1 _ I1 q1) fun u s2 ⟨x,H2,I2,rx,q2⟩=>thn (hi pins s2 σ H2 _ I2 q2) fun iv s3 ⟨y,H3,I3,ry,a,H4,ex,g,q3⟩=>?_) hs
  subst ex
  obtain rfl:u=Value.ref a:=rx
  exact Q0 hu I3 g ry rv fun s4 I4=>⟨σ,H4,I4,q3⟩
end
theorem Z0a {P:Program}{w:World}{H:Hp}(h:Heap) (hb:sysModules < h.objs.size):ObjOk P w H (h.push { cls:=.type "dict",data:=.dict #[] }) h.objs.size (.dK []) :=
  ⟨Nat.zero_le _,beq_eq_false_iff_ne.mpr (Ne.symm (Nat.ne_of_lt hb)),[],.nil,Heap.DictOf.new h⟩
noncomputable def Z1Y:TE:=fun _ H Q=>∀ p,H p=none->Q (.ref p) (upd H p (.dK []))
section
variable {X:Cx}{pos:Pos}
theorem pe_dnewK:PE X (.Dict [] [] pos) Z1Y:=fun pins s σ H Q I h =>
  wpAny_Dict_empty ⟨.ref s.heap.objs.size,_,I.laid (a:=s.heap.objs.size) (o:=.dK []) (t':=s.toks) (fun _ _ q=>Heap.get?_push_of_some _ q) (Nat.le_refl _) (Z0a s.heap I.big),rfl,h _ (I.hok.fresh (Nat.le_refl _))⟩
end
structure M1 (X:Cx) (o:Expr) (m:Str) (apos:Pos) (e:Expr) (cpos:Pos):Prop where
  base:attributeBase o m X.env (eval o X.env)=eval o X.env
  few:((backTo cpos (starEach [e] X.env)).all (fun x=>!x.1) && (backToKw cpos (keywordEach [] X.env)).all (fun x=>x.1.isSome)
    && decide (([e]:List Expr).length + ([]:List Keyword).length + (if ([]:List Keyword).isEmpty then 0 else 1) < 30))=true
  line:(apos.endLine == cpos.line)=true
  trees:backTo cpos (starEach [e] X.env)=[(false,eval e X.env)]
structure M2 (X:Cx) (o:Expr) (m:Str) (apos:Pos) (e f:Expr) (cpos:Pos):Prop where
  base:attributeBase o m X.env (eval o X.env)=eval o X.env
  few:((backTo cpos (starEach [e,f] X.env)).all (fun x=>!x.1) && (backToKw cpos (keywordEach [] X.env)).all (fun x=>x.1.isSome)
    && decide (([e,f]:List Expr).length + ([]:List Keyword).length + (if ([]:List Keyword).isEmpty then 0 else 1) < 30))=true
  line:(apos.endLine == cpos.line)=true
  trees:backTo cpos (starEach [e,f] X.env)=[(false,eval e X.env),(false,eval f X.env)]
section
variable {X:Cx}{pins:List (Addr × Obj)}{σ:St}{H:Hp}{s:Shared}{a:Addr}{y d:V}{u r:Value}{o:Option V}{A:Around}{E:Value->Shared->Prop}
end
section
variable {X:Cx}{o e f:Expr}{apos cpos:Pos}{td ty tx:TE}
end
section
variable {X:Cx}{pins:List (Addr × Obj)}{σ:St}{H:Hp}{s:Shared}{a:Addr}{kvs:List (Key × V)}{A:Around}{E:Value->Shared->Prop}
end
section
variable {X:Cx}{pins:List (Addr × Obj)}{σ:St}{H:Hp}{s:Shared}{a:Addr}{y:V}{u:Value}{A:Around}{E:Value->Shared->Prop}
end
noncomputable abbrev Ent:=List Key × Addr × V
noncomputable abbrev KE:List Ent->List (List Key × Addr × Value)->Prop:=Paired fun p q=>p.1=q.1 /\ p.2.1=q.2.1 /\ RelV p.2.2 q.2.2
noncomputable def yP (es:List Ent) (k:List Key):Option V:=(es.find? fun e=>decide (e.1=k)).map (·.2.2)
theorem R8 {p:Ent}{r:List Ent}{k:List Key}(e:p.1=k):yP (p :: r) k=some p.2.2:=by simp [yP,List.find?_cons,e]
theorem R9 {p:Ent}{r:List Ent}{k:List Key}(e:¬ p.1=k):yP (p :: r) k=yP r k:=by simp [yP,List.find?_cons,e]
theorem KE.val {es:List Ent}{xs:List (List Key × Addr × Value)}(r:KE es xs) (k:List Key):RelO (yP es k) ((atKey xs k).map (·.2)):=by
  induction r with
  | nil=>exact True.intro
  | @cons p q ps qs h t ih =>
    obtain⟨h1,_,h2⟩:=h
    by_cases e:p.1=k
    . have e':q.1=k:=h1.symm.trans e
      have b:atKey (q :: qs) k=some q.2:=by simp [atKey,List.find?_cons,e']
      rw [R8 e,b];exact h2
    . have e':¬ q.1=k:=fun z=>e (h1.trans z)
      have b:atKey (q :: qs) k=atKey qs k:=by simp [atKey,List.find?_cons,e']
      rw [R9 e,b];exact ih
theorem KE.snoc {k:List Key}{b:Addr}{v:V}{u:Value}(rv:RelV v u):∀ {es:List Ent}{xs:List (List Key × Addr × Value)},KE es xs->KE (es ++ [(k,b,v)]) (xs ++ [(k,b,u)])
  | _,_,.nil=>.cons ⟨rfl,rfl,rv⟩ .nil
  | _,_,.cons h t=>.cons h (KE.snoc rv t)
section
variable {X:Cx}{pins:List (Addr × Obj)}{σ:St}{H:Hp}{s:Shared}{a b:Addr}{y v:V}{u r:Value}{o:Option V}{A:Around}{E:Value->Shared->Prop}{es:List Ent}{k:List Key}{ep:Nat}
noncomputable abbrev Z2J (K:Frag) (H:Hp) (es:List Ent):Prop:=∀ e ∈ es,SqT K H e.2.1 (e.1.map kV)
theorem Z3x (I:Inv X pins σ H s) (h:SqT X.K H b (k.map kV)):(tupleKind (cQ X.prog X.w)).is s.heap k b:=by
  obtain⟨its,r,⟨o,h1,h2,n,h3⟩,_⟩:=I.tuple h
  exact⟨o,its.toArray,n,h1,h2,h3,by simpa using oZ r⟩
theorem KE.is (I:Inv X pins σ H s):∀ {es:List Ent}{xs:List (List Key × Addr × Value)},KE es xs->Z2J X.K H es->∀ x ∈ xs,(tupleKind (cQ X.prog X.w)).is s.heap x.1 x.2.1
  | _,_,.nil,_,x,hx=>by cases hx
  | e :: es,q :: xs,.cons h t,ht,x,hx=>by
    rcases List.mem_cons.mp hx with z | z
    . have:=ht e List.mem_cons_self
      rw [h.1,h.2.1] at this
      rw [z];exact Z3x I this
    . exact KE.is I t (fun e he=>ht e (List.mem_cons_of_mem _ he)) x z
theorem KE.len {es:List Ent}{xs:List (List Key × Addr × Value)}(r:KE es xs):es.length=xs.length:=Paired.length r
theorem KE.new {es:List Ent}{xs:List (List Key × Addr × Value)}(r:KE es xs) {k:List Key}(h:yP es k=none):atKey xs k=none:=by
  have rv:=r.val k
  rw [h] at rv
  cases q:atKey xs k with
  | none=>rfl
  | some y=>rw [q] at rv;cases rv
end
section
variable {X:Cx}{o i e value:Expr}{pos pos' tpos:Pos}{td ty tv:TE}
end
section
variable {prog:Program}{w:World}{A:Around}{E:Value->Shared->Prop}{R:Result->Shared->Prop}{s:Shared}
theorem vQ {elt target iter:Expr}{ifs:List Expr}{scope:Scope}{pos:Pos}{it acc:Value}{env:Env}(I:Nat->Shared->Prop)
    (turn:∀ n s,I n s->wpAny (model prog w) A (pyNext it) (fun r s₁=>match r with
      | none=>R (.ok .next) s₁
      | some v=>wpAny (model prog w) A (letOwnedTupleGo target it v) (fun _ s₀=>wpAny (model prog w) A (assign target env v) (fun _ s₂ =>
          wpAny (model prog w) A (forIn ifs true fun c r=>if r=true then do let ok <- isTrue c env (eval c env);pure (ForInStep.yield ok) else pure (ForInStep.yield r)) (fun ok s₃ =>
            if ok=true then wpAny (model prog w) A (eval elt env) (fun x s₄ =>
              wpAny (model prog w) A (call (.builtin "list.append") [acc,x]) (fun _ s₅=>∃ m,m < n /\ I m s₅) (notedBy (model prog w) A env fun e s'=>R (.error e) s') s₄) (notedBy (model prog w) A env fun e s'=>R (.error e) s') s₃
            else ∃ m,m < n /\ I m s₃) (notedBy (model prog w) A env fun e s'=>R (.error e) s') s₂) (notedBy (model prog w) A env fun e s'=>R (.error e) s') s₀)
          (notedBy (model prog w) A env fun e s'=>R (.error e) s') s₁) (notedBy (model prog w) A env fun e s'=>R (.error e) s') s)
    (n:Nat) (h:I n s) :
    codeAny (model prog w) A (.compLoop (.ListComp elt [⟨target,iter,ifs,0⟩] scope pos) 0 it acc env) R s:=by
  refine codeAny_loop rfl I (fun n s hI=>?_) n h
  show wpAny _ A ((compTurn (.ListComp elt [⟨target,iter,ifs,0⟩] scope pos) 0 it acc env).onRaise (fun x=>do noteFrame x env;theTreesLotGoes x)) _ _ s
  refine wpAny_noted ?_
  rw [compTurn_list]
  refine wpAny_bind (wpAny_standAt (wpAny_bind (wpAny_mono (turn n s hI) (fun r s₁ h₁=>?_) fun _ _ h'=>h')))
  cases r with
  | none=>exact wpAny_pure h₁
  | some v =>
    refine wpAny_bind (wpAny_mono h₁ (fun _ s₀ h₀=>?_) fun _ _ h'=>h')
    refine wpAny_bind (wpAny_mono h₀ (fun _ s₂ h₂=>wpAny_bind (wpAny_mono h₂ (fun ok s₃ h₃=>?_) fun _ _ h'=>h')) fun _ _ h'=>h')
    cases ok with
    | false=>exact wpAny_pure ⟨rfl,h₃⟩
    | true =>
      exact wpAny_bind (wpAny_bind (wpAny_mono h₃ (fun x s₄ h₄=>wpAny_bind (wpAny_mono h₄ (fun _ s₅ h₅=>wpAny_pure (wpAny_pure ⟨rfl,h₅⟩)) fun _ _ h'=>h')) fun _ _ h'=>h'))
end
theorem nK {env:Env}:∀ (names:List (Str × NameKind)) (acc:List (Str × Addr)),(∀ n,(n,NameKind.free) ∈ names->∃ c,env.cells.lookup n=some c) ->
    (∀ n c,acc.lookup n=some c->env.cells.lookup n=some c) ->
    ∃ cl,(forIn names acc fun (x:Str × NameKind) cs=>(if (x.2 == NameKind.free)=true then (cellOf env x.1 >>= fun a=>pure (ForInStep.yield ((x.1,a) :: cs))) else pure (ForInStep.yield cs):Sem (ForInStep (List (Str × Addr)))))=pure cl /\
      (∀ n c,cl.lookup n=some c->env.cells.lookup n=some c) /\ (∀ n,(n,NameKind.free) ∈ names->∃ c,cl.lookup n=some c) /\ (∀ n c,acc.lookup n=some c->∃ c',cl.lookup n=some c')
  | [],acc,_,h2=>⟨acc,rfl,h2,fun n h=>(nomatch h),fun n c h=>⟨c,h⟩⟩
  | (n,k) :: r,acc,h1,h2=>by
    by_cases hk:k=.free
    . subst hk
      obtain⟨c,hc⟩:=h1 n List.mem_cons_self
      have h2':∀ m c',((n,c) :: acc).lookup m=some c'->env.cells.lookup m=some c':=by
        intro m c' e
        rw [List.lookup_cons] at e
        cases q:m == n with
        | true =>
          rw [q] at e
          have:=eq_of_beq q
          subst this
          cases e
          exact hc
        | false =>
          rw [q] at e
          exact h2 m c' e
      obtain⟨cl,e,g1,g2,g3⟩:=nK r ((n,c) :: acc) (fun m hm=>h1 m (List.mem_cons_of_mem _ hm)) h2'
      refine⟨cl,?_,g1,?_,?_⟩
      . rw [List.forIn_cons]
        have e1:cellOf env n=pure c:=by unfold cellOf;rw [hc]
        show ((if (NameKind.free == NameKind.free)=true then _ else _) >>= _)=_
        rw [if_pos (by rfl),e1]
        exact e
      . intro m hm
        rcases List.mem_cons.mp hm with z | z
        . cases z
          exact g3 n c (by simp [List.lookup_cons])
        . exact g2 m z
      . intro m c' hm
        cases q:m == n with
        | true=>exact g3 m c (by rw [List.lookup_cons,q])
        | false=>exact g3 m c' (by rw [List.lookup_cons,q];exact hm)
    . obtain⟨cl,e,g1,g2,g3⟩:=nK r acc (fun m hm=>h1 m (List.mem_cons_of_mem _ hm)) h2
      refine⟨cl,?_,g1,?_,g3⟩
      . rw [List.forIn_cons]
        have:(k == NameKind.free)=false:=by simpa using hk
        show ((if (k == NameKind.free)=true then _ else _) >>= _)=_
        rw [this,if_neg (by decide)]
        exact e
      . intro m hm
        rcases List.mem_cons.mp hm with z | z
        . cases z;exact absurd rfl hk
        . exact g2 m z
theorem nJ {scope:Scope}{env:Env}(h:∀ n,(n,NameKind.free) ∈ scope.names->∃ c,env.cells.lookup n=some c) :
    ∃ cl,closureFor scope env=pure cl /\ (∀ n c,cl.lookup n=some c->env.cells.lookup n=some c) /\ (∀ n,(n,NameKind.free) ∈ scope.names->∃ c,cl.lookup n=some c):=by
  obtain⟨cl,e,g1,g2,_⟩:=nK (env:=env) scope.names [] h (fun n c q=>(nomatch q))
  refine⟨cl,?_,g1,g2⟩
  unfold closureFor
  first
    | (rw [show (forIn scope.names ([]:List (Str × Addr)) _:Sem (List (Str × Addr)))=pure cl from e];rfl)
    | (simp only [bind_pure];exact e)
    | exact e
noncomputable def fM (X:Cx) (N':List Str) (scope:Scope) (cl:List (Str × Addr)) (C:Addr) (s₀:Shared) (H₀:Hp) (ex:List Addr) (pins:List (Addr × Obj)):Cx :=
  { X with N:=N',s₀:=s₀,H₀:=H₀,env:=compEnvC scope cl C X.env,outer:=X.stack,stack:=X.stack,ex:=ex,fn:=fun _=>false,pn:=X.pn ++ pins,xe:=fun _ _=>False }
noncomputable def gY (osc:Scope) (N:List Str) (scope:Scope) (fr:List Nat):Bool :=
  scope.kind == .function && scope.names.all (fun y=>y.2 != .cell) && scope.names.all (fun y=>y.2 != .free || (osc.names.lookup y.1 == some .cell || osc.names.lookup y.1 == some .free)) &&
  fr.all (fun j=>match N[j]? with | some x=>scope.names.lookup x == some .free | none=>false) && scope.names.all (fun y=>y.2 != .local || scope.names.lookup y.1 == some .local)
theorem iQ {env:Env}:∀ {names:List (Str × NameKind)}{x:Str},names.lookup x=some .free ->
    (names.map fun (n,k)=>if (k == NameKind.free && env.scope.kind == .function && env.kindOf n == some .cell) then (n,NameKind.cell) else (n,k)).lookup x=some .cell \/
    (names.map fun (n,k)=>if (k == NameKind.free && env.scope.kind == .function && env.kindOf n == some .cell) then (n,NameKind.cell) else (n,k)).lookup x=some .free
  | [],_,h=>by simp at h
  | (n,k) :: r,x,h=>by
    have ih:=@iQ env r x
    show List.lookup x ((if (k == NameKind.free && env.scope.kind == .function && env.kindOf n == some .cell)=true then (n,NameKind.cell) else (n,k)) :: _)=_ \/ List.lookup x ((if (k == NameKind.free && env.scope.kind == .function && env.kindOf n == some .cell)=true then (n,NameKind.cell) else (n,k)) :: _)=_
    cases hx:x == n with
    | true =>
      simp only [List.lookup_cons,hx] at h
      cases h
      by_cases hc:(NameKind.free == NameKind.free && env.scope.kind == .function && env.kindOf n == some .cell)=true
      . rw [if_pos hc];left;simp only [List.lookup_cons,hx]
      . rw [if_neg hc];right;simp only [List.lookup_cons,hx]
    | false =>
      simp only [List.lookup_cons,hx] at h
      by_cases hc:(k == NameKind.free && env.scope.kind == .function && env.kindOf n == some .cell)=true
      . rw [if_pos hc];simp only [List.lookup_cons,hx];exact ih h
      . rw [if_neg hc];simp only [List.lookup_cons,hx];exact ih h
theorem pM {env:Env}{names:List (Str × NameKind)}(hc:∀ y ∈ names,y.2 ≠ .cell) {x:Str}{k':NameKind}(hk:k'=.cell \/ k'=.free)
    (h:(names.map fun (n,k)=>if (k == NameKind.free && env.scope.kind == .function && env.kindOf n == some .cell) then (n,NameKind.cell) else (n,k)).lookup x=some k'):(x,NameKind.free) ∈ names:=by
  have h1:=PySem.mem_of_lookup h
  obtain⟨⟨n,k⟩,hm,e⟩:=List.mem_map.mp h1
  by_cases q:(k == NameKind.free && env.scope.kind == .function && env.kindOf n == some .cell)=true
  . simp only [q] at e
    simp at e
    obtain⟨rfl,_⟩:=e
    simp at q
    obtain⟨⟨rfl,_⟩,_⟩:=q
    exact hm
  . simp only [q] at e
    simp at e
    obtain⟨rfl,rfl⟩:=e
    rcases hk with z | z
    . exact absurd z (hc _ hm)
    . subst z;exact hm
section
variable {X:Cx}{pins:List (Addr × Obj)}{σ:St}{H:Hp}{s:Shared}
noncomputable def lP (k:Nat) (fr:List Nat) (σ:St):St:=List.replicate k none ++ fr.map fun j=>(σ[j]?).join
noncomputable def fD (tgs:List Str) (fr:List Nat) (N:List Str):List Str:=tgs ++ fr.map fun j=>(N[j]?).getD Str.empty
theorem Z5 {scope:Scope}{tgs:List Str}{fr:List Nat}{cl:List (Str × Addr)}{h':Heap}{tk:Nat}{ex:List Addr}(I:Inv X pins σ H s)
    (chk:gY X.env.scope X.N scope fr=true)
    (hcl1:∀ n c,cl.lookup n=some c->X.env.cells.lookup n=some c) (hcl2:∀ n,(n,NameKind.free) ∈ scope.names->∃ c,cl.lookup n=some c)
    (hns:h'.Ns s.heap.objs.size (fun _=>none)) (hkeep:∀ b o,s.heap.get? b=some o->h'.get? b=some o)
    (hex:∀ b ∈ ex,tF X pins H b /\ b < s.heap.objs.size) :
    Inv (fM X (fD tgs fr X.N) scope cl s.heap.objs.size s H ex pins) [] (lP tgs.length fr σ) H { s with heap:=h',toks:=tk }:=by
  simp only [gY,Bool.and_eq_true,List.all_eq_true] at chk
  obtain⟨⟨⟨⟨c1,c2⟩,c3⟩,c4⟩,c5⟩:=chk
  have hkind:scope.kind=.function:=by simpa using c1
  have hcell:∀ y ∈ scope.names,y.2 ≠ .cell:=fun y hy=>by simpa using c2 y hy
  have lt:∀ b o,s.heap.get? b=some o->b < s.heap.objs.size:=fun b o e=>Heap.lt_size e
  have nofr:∀ b ∈ frs X.stack,b ∈ X.env.locals :: X.fs:=I.stkSub
  refine⟨⟨I.ok.mod,hkind,I.ok.glob,I.ok.blt,Nat.le_refl _,fun x y c a b=>I.ok.inj x y c (hcl1 _ _ a) (hcl1 _ _ b),fun x hx=>?_,fun x c hf _=>?_,I.ok.hd,I.ok.frames,.inl rfl,fun b hb=>⟨?_,fun x c e=>(hex b hb).1.2.2.2.2.1 x c (hcl1 _ _ e)⟩,
      I.bs,Nat.le_trans I.ok.bsz I.sz,fun b o e hb=>?_,fun b hb hf=>?_,I.stack,I.stkFree⟩,
    rfl,I.bare,Un.kept hkeep,⟨fun _=>none,hns,fun i x v h1 h2 h3=>?_⟩,fun x c e=>?_,I.fresh,fun x c e=>I.freeC x c (hcl1 _ _ e),fun p hp=>?_,I.hok.kept hkeep,?_⟩
  . -- has
    have hx:(relabel scope X.env).names.lookup x=some .cell \/ (relabel scope X.env).names.lookup x=some .free:=hx
    rcases hx with z | z
    . exact hcl2 x (pM hcell (.inl rfl) z)
    . exact hcl2 x (pM hcell (.inr rfl) z)
  . cases hf
  . show b ≠ s.heap.objs.size
    exact Nat.ne_of_lt (hex b hb).2
  . -- noex
    obtain⟨⟨_,_,_,h4,_⟩,_⟩:=hex b hb
    rcases h4 with z | z
    . exact I.ok.noex b o e z
    . exact absurd (Heap.lt_size (I.ok.bs b o e).1) (Nat.not_lt.mpr z)
  . -- exfs
    obtain⟨⟨_,h2,h3,_⟩,_⟩:=hex b hb
    rcases List.mem_cons.mp (nofr b hf) with z | z
    . exact h2 z
    . exact h3 z
  . -- loc
    have h1:(fD tgs fr X.N)[i]? = some x:=h1
    by_cases hi:i < tgs.length
    . unfold lP at h2
      rw [List.getElem?_append_left (by simpa using hi),List.getElem?_replicate,if_pos hi] at h2
      cases h2
    . unfold lP at h2
      rw [List.getElem?_append_right (by simpa using hi),List.length_replicate,List.getElem?_map] at h2
      unfold fD at h1
      rw [List.getElem?_append_right (by simpa using hi),List.getElem?_map] at h1
      cases ej:fr[i - tgs.length]? with
      | none=>rw [ej] at h2;cases h2
      | some j =>
        rw [ej] at h1 h2
        have hj:=c4 j (List.mem_of_getElem? ej)
        cases en:X.N[j]? with
        | none=>rw [en] at hj;cases hj
        | some y =>
          rw [en] at hj
          simp only [Option.map_some,en,Option.getD_some] at h1
          cases h1
          have hl:scope.names.lookup x=some .free:=by simpa using hj
          have hσ:σ[j]? = some (some v):=by
            simp only [Option.map_some] at h2
            cases eσ:σ[j]? with
            | none=>rw [eσ] at h2;cases h2
            | some o=>rw [eσ] at h2;simp only [Option.join_some] at h2;injection h2 with h2;rw [h2]
          have hko:X.env.scope.names.lookup x=some .cell \/ X.env.scope.names.lookup x=some .free:=by
            have:=c3 _ (PySem.mem_of_lookup hl)
            simpa using this
          obtain⟨m,_,hloc⟩:=I.loc
          obtain⟨u,r,q⟩:=hloc j x v en hσ (hko.elim (fun z=>.inr (.inl z)) fun z=>.inr (.inr z))
          refine⟨u,r,.inr ?_⟩
          obtain⟨c,hc⟩:=hcl2 x (PySem.mem_of_lookup hl)
          have hin:=iQ (env:=X.env) hl
          refine⟨hin,c,hc,?_⟩
          rcases q with ⟨k,_⟩ | ⟨_,c',e',z⟩
          . have k':X.env.scope.names.lookup x=some .local:=k
            rcases hko with w | w <;> (rw [k'] at w;cases w)
          . have:c'=c:=by have:=hcl1 x c hc;rw [e'] at this;exact Option.some.inj this
            subst this
            obtain⟨oc,hoc,hd⟩:=z
            exact⟨oc,hkeep _ _ hoc,hd⟩
  . obtain⟨v,oc,hoc,hd⟩:=I.cell x c (hcl1 _ _ e)
    exact⟨v,oc,hkeep _ _ hoc,hd⟩
  . have hp':p ∈ X.pn ++ pins:=by
      have:p ∈ (X.pn ++ pins) ++ []:=hp
      simpa using this
    obtain⟨a1,a2,a3,a4,a5⟩:=I.pin p hp'
    refine⟨hkeep _ _ a1,a2,?_,fun hf=>?_,a5⟩
    . show p.1 ≠ s.heap.objs.size
      exact Nat.ne_of_lt (lt _ _ a1)
    . rcases List.mem_cons.mp (nofr _ hf) with z | z
      . exact a3 z
      . exact a4 z
  . show (lP tgs.length fr σ).length=(fD tgs fr X.N).length
    simp [lP,fD]
end
noncomputable def PTs (X:Cx) (ifs:List Expr) (t:TT):Prop :=
  ∀ (pins:List (Addr × Obj)) (s:Shared) (σ:St) (H:Hp) (Q:Bool->Hp->Prop),Inv X pins σ H s->t σ H Q ->
    wpAny (model X.prog X.w) X.A (forIn ifs true fun c r=>if r=true then do let ok <- isTrue c X.env (eval c X.env);pure (ForInStep.yield ok) else pure (ForInStep.yield r)) (TP X pins σ Q) X.xe s
noncomputable def Z2L:TT:=fun _ H Q=>Q true H
theorem Z0S {X:Cx}:PTs X [] Z2L:=fun pins s σ H Q I h=>wpAny_tests_nil ⟨H,I,h⟩
theorem Z0R {X:Cx}{c:Expr}{t:TT}(h:PT X c t):PTs X [c] t:=fun pins s σ H Q I q=>wpAny_tests_one (h pins s σ H Q I q)
noncomputable def Z1P (J:It) (k:Nat) (fr:List Nat) (g:TG) (tt:TT) (te:TE) (σ:St) (H1:Hp) (Q:VK):Prop :=
  ∀ acc,H1 acc=none->∃ W:Nat->Nat->List V->Hp->Prop,(∃ m,W 0 m [] (upd H1 acc (.lst []))) /\ ∀ i m ys H,W i m ys H->H acc=some (.lst ys) /\
    ((J.stop i H /\ Q (.ref acc) H) \/ (J.go i H /\ ∀ x H', J.yld i H x H' -> g x (lP k fr σ) H' fun σ2 H2 => (σ2.drop k = (lP k fr σ).drop k /\ σ2.length = (lP k fr σ).length) /\ tt σ2 H2 fun b H3 => if b = true then te σ2 H3 fun y H4 => ∃ ys', H4 acc = some (.lst ys') /\ ys'.length < sizeLine /\
      ∃ m',m' < m /\ W (i + 1) m' (ys' ++ [y]) (upd H4 acc (.lst (ys' ++ [y]))) else ∃ m' ys',m' < m /\ W (i + 1) m' ys' H3))
noncomputable def T1 (wi:TI) (k:Nat) (fr:List Nat) (g:TG) (tt:TT) (te:TE):TE:=fun σ H Q=>wi σ H fun J H1=>Z1P J k fr g tt te σ H1 Q
section
variable {X:Cx}{pins:List (Addr × Obj)}{σ:St}{H:Hp}{s:Shared}{elt iter tg:Expr}{ifs:List Expr}{scope:Scope}{pos:Pos}{tgs:List Str}{fr:List Nat}{g:TG}{tt:TT}{te:TE}{J:It}{fp:List Addr}{it:Addr}{tn:Nat->Heap->Prop}
theorem yB {cl:List (Str × Addr)}{R:VK}{E:Value->Shared->Prop}{RR:Value->Addr->Result->Shared->Prop}(I2:Inv X pins σ H s) (T:vV X.prog X.w X.K tg J fp it tn) (st2:tn 0 s.heap) (f2:∀ b ∈ fp,tF X pins H b) (hc:X.calm=true)
    (chk:gY X.env.scope X.N scope fr=true)
    (hcl1:∀ n c,cl.lookup n=some c->X.env.cells.lookup n=some c) (hcl2:∀ n,(n,NameKind.free) ∈ scope.names->∃ c,cl.lookup n=some c)
    (hg:∀ cl C s0 H0 ex pins,PG (fM X (fD tgs fr X.N) scope cl C s0 H0 ex pins) tg g)
    (ht:∀ cl C s0 H0 ex pins,PTs (fM X (fD tgs fr X.N) scope cl C s0 H0 ex pins) ifs tt)
    (he:∀ cl C s0 H0 ex pins,PE (fM X (fD tgs fr X.N) scope cl C s0 H0 ex pins) elt te)
    (rd:Z1P J tgs.length fr g tt te σ H R)
    (fin:∀ D C s' Hend m,Inv X pins σ Hend s'->s'.heap.Ns C m->Hend C=none->C ≠ X.env.locals->X.s₀.heap.objs.size <= C->(∀ x c,X.env.cells.lookup x=some c->c ≠ C)->(∀ p ∈ X.pn ++ pins,p.1 ≠ C)->R (.ref D) Hend->RR (.ref D) C (.ok .next) s') :
    wpAny (model X.prog X.w) X.A (newList []) (fun acc s₃=>wpAny (model X.prog X.w) X.A (newFunctionEnv scope X.env.globals cl [] X.env.qual none .none (some X.env)) (fun cenv s₄ =>
      codeAny (model X.prog X.w) X.A (.compStart (.ListComp elt [⟨tg,iter,ifs,0⟩] scope pos) 0 (.ref it) acc { cenv with scope:=relabel scope X.env }) (RR acc cenv.locals) s₄) E s₃) E s:=by
  have chk':=chk
  simp only [gY,Bool.and_eq_true,List.all_eq_true] at chk'
  obtain⟨⟨⟨⟨c1,c2⟩,c3⟩,c4⟩,c5⟩:=chk'
  have hkind:scope.kind=.function:=by simpa using c1
  have hcell:∀ y ∈ scope.names,y.2 ≠ .cell:=fun y hy=>by simpa using c2 y hy
  refine wpAny_newObj_type (wpAny_newFunctionEnv hcell (by intro y hy;simp at hy) (fun h₁ hns₁ hsb₁=>?_) hkind)
  have I3:Inv X pins σ (upd H s.heap.objs.size (.lst [])) { s with heap:=s.heap.push { cls:=.type "list",data:=.seq ([]:List Value).toArray } }:=I2.lnew (t':=s.toks) (its:=[]) .nil (Nat.zero_le _)
  generalize hs3:({ s with heap:=s.heap.push { cls:=.type "list",data:=.seq ([]:List Value).toArray } }:Shared)=s3 at I3 hns₁ hsb₁ ⊢
  have heap3:s3.heap=s.heap.push { cls:=.type "list",data:=.seq ([]:List Value).toArray }:=by rw [<- hs3]
  have kept3:∀ b o,s.heap.get? b=some o->s3.heap.get? b=some o:=fun b o e=>by rw [heap3];exact Heap.get?_push_of_some _ e
  have size3:s3.heap.objs.size=s.heap.objs.size + 1:=by rw [heap3,Heap.size_push]
  have fpl:∀ b ∈ fp,b < s.heap.objs.size:=fun b hb=>by
    obtain⟨o,e,_⟩:=T.obj 0 _ st2 b hb
    exact Heap.lt_size e
  have upn:∀ {b:Addr},b < s.heap.objs.size->upd H s.heap.objs.size (.lst []) b=H b:=fun hb=>aM (Nat.ne_of_lt hb)
  have f3:∀ b ∈ fp,tF X pins (upd H s.heap.objs.size (.lst [])) b:=fun b hb=>⟨by rw [upn (fpl b hb)];exact (f2 b hb).1,(f2 b hb).2⟩
  have keep4:∀ b o,s3.heap.get? b=some o->h₁.get? b=some o:=fun b o e=>hsb₁.extBut b o (Nat.ne_of_lt (Heap.lt_size e)) (Heap.get?_push_of_some _ e)
  have I4:=Z5 (tgs:=tgs) (h':=h₁) (tk:=s3.toks + ([]:List (Str × Value)).length) (ex:=fp) I3 chk hcl1 hcl2 (by simpa using hns₁) keep4 (fun b hb=>⟨f3 b hb,by rw [size3];exact Nat.lt_succ_of_lt (fpl b hb)⟩)
  obtain⟨W,⟨m0,w0⟩,turn⟩:=rd s.heap.objs.size I2.fresh
  generalize hX':fM X (fD tgs fr X.N) scope cl s3.heap.objs.size s3 (upd H s.heap.objs.size (.lst [])) fp pins=X' at I4
  have eA:X'.A=X.A:=by rw [<- hX'];rfl
  have eP:X'.prog=X.prog:=by rw [<- hX'];rfl
  have eW:X'.w=X.w:=by rw [<- hX'];rfl
  have eK:X'.K=X.K:=by rw [<- hX'];rfl
  have eC:X'.calm=true:=by rw [<- hX'];exact hc
  have eX:X'.xe=fun _ _=>False:=by rw [<- hX'];rfl
  have eEnv:X'.env=compEnvC scope cl s3.heap.objs.size X.env:=by rw [<- hX'];rfl
  have hg':PG X' tg g:=by rw [<- hX'];exact hg _ _ _ _ _ _
  have ht':PTs X' ifs tt:=by rw [<- hX'];exact ht _ _ _ _ _ _
  have he':PE X' elt te:=by rw [<- hX'];exact he _ _ _ _ _ _
  have fp4:∀ {H':Hp},(∀ b ∈ fp,H' b=none)->∀ b ∈ fp,tF X' [] H' b:=fun {H'} hn b hb=>by
    rw [<- hX']
    obtain⟨_,z2,z3,z4,z5,z6⟩:=f3 b hb
    refine⟨hn b hb,?_,fun hf=>?_,.inl hb,fun x c e=>z5 x c (hcl1 _ _ e),fun p hp=>z6 p (by have:p ∈ (X.pn ++ pins) ++ []:=hp;simpa using this)⟩
    . show b ≠ s3.heap.objs.size
      rw [size3];exact Nat.ne_of_lt (Nat.lt_succ_of_lt (fpl b hb))
    . rcases List.mem_cons.mp (I3.stkSub b hf) with z | z
      . exact z2 z
      . exact z3 z
  have loop:codeAny (model X.prog X.w) X.A (.compLoop (.ListComp elt [⟨tg,iter,ifs,0⟩] scope pos) 0 (.ref it) (.ref s.heap.objs.size) (compEnvC scope cl s3.heap.objs.size X.env))
      (RR (.ref s.heap.objs.size) s3.heap.objs.size) { s3 with heap:=h₁,toks:=s3.toks + ([]:List (Str × Value)).length }:=by
    refine vQ (fun n s'=>∃ i ys H',Inv X' [] (lP tgs.length fr σ) H' s' /\ tn i s'.heap /\ (∀ b ∈ fp,H' b=none) /\ W i n ys H') ?_ m0
      ⟨0,[],upd H s.heap.objs.size (.lst []),I4,T.keep _ _ _ st2 fun b hb o e=>keep4 _ _ (kept3 _ _ e),fun b hb=>(f3 b hb).1,w0⟩
    rintro n s5 ⟨i,ys,H5,I5,st5,fr5,w5⟩
    obtain⟨hacc,turn⟩:=turn i n ys H5 w5
    rcases turn with ⟨stop,q⟩ | ⟨go,step⟩
    . have d:=T.done X' eP eW eK eC i [] s5 (lP tgs.length fr σ) H5 (fun _ _=>False) I5 (fp4 fr5) st5 stop
      rw [eA] at d
      refine wpAny_mono d (fun r s6 ⟨hr,I6⟩=>?_) fun _ _ z=>z.elim
      subst hr
      have I6':=I6
      rw [<- hX'] at I6'
      have un6:Un (frs X.stack) fp (upd H s.heap.objs.size (.lst [])) H5 s3.heap s6.heap:=I6'.base
      have I7:Inv X pins σ H5 s6:=I3.call' I6'.os un6 (by have:=I6'.hok;exact this) I6'.bare fun b hb=>⟨(f3 b hb).2.2.2.1,(f3 b hb).2.1,(f3 b hb).2.2.2.2.1,(f3 b hb).2.2.2.2.2⟩
      obtain⟨m,hm,_⟩:=I6'.loc
      refine fin _ _ s6 H5 m I7 hm I6'.free ?_ ?_ ?_ ?_ q
      . exact fun z=>by have:=I3.lt;rw [<- z] at this;exact Nat.lt_irrefl _ this
      . exact I3.sz
      . intro x c e z
        obtain⟨v,oc,hoc,_⟩:=I3.cell x c e
        have:=Heap.lt_size hoc
        rw [z] at this;exact Nat.lt_irrefl _ this
      . intro p hp z
        have:=Heap.lt_size (I3.pin p hp).1
        rw [z] at this;exact Nat.lt_irrefl _ this
    . have d:=T.item X' eP eW eK eC i [] s5 (lP tgs.length fr σ) H5 (fun _ _=>False) I5 (fp4 fr5) st5 go
      rw [eA] at d
      refine wpAny_mono d (fun r s6 ⟨u,hr,h6⟩=>?_) fun _ _ z=>z.elim
      subst hr
      refine wpAny_mono h6 (fun _ s7 ⟨x,H7,I7,r7,y7,st7,fr7⟩=>?_) fun _ _ z=>z.elim
      have I7':=I7.pinned (fp4 fr7) (T.obj _ _ st7)
      have a:=hg' _ s7 _ H7 x u _ I7' r7 (step x H7 y7)
      rw [eEnv,eA,eP,eW,eX] at a
      refine wpAny_mono a (fun _ s8 ⟨σ8,H8,I8,⟨kp,kl⟩,q8⟩=>?_) fun _ _ z=>z.elim
      have b:=ht' _ s8 σ8 H8 _ I8 q8
      rw [eEnv,eA,eP,eW,eX] at b
      refine wpAny_mono b (fun ok s9 ⟨H9,I9,q9⟩=>?_) fun _ _ z=>z.elim
      have again:∀ {s10:Shared}{H10:Hp}{ys10:List V}{m':Nat},Inv X' ([] ++ rJ fp s7.heap) σ8 H10 s10->m' < n->W (i + 1) m' ys10 H10 ->
          ∃ m,m < n /\ ∃ i ys H',Inv X' [] (lP tgs.length fr σ) H' s10 /\ tn i s10.heap /\ (∀ b ∈ fp,H' b=none) /\ W i m ys H':=fun {s10 H10 ys10 m'} I10 hm w10=>by
        refine⟨m',hm,i + 1,ys10,H10,I10.unpinned.weak kl.symm (fun j v e=>?_),T.keep _ _ _ st7 fun b hb o e=>(I10.pin (b,o) (List.mem_append_right _ (List.mem_append_right _ (lD hb e)))).1,fun b hb=>?_,w10⟩
        . by_cases hj:j < tgs.length
          . unfold lP at e
            rw [List.getElem?_append_left (by simpa using hj),List.getElem?_replicate,if_pos hj] at e
            cases e
          . have e1:(σ8.drop tgs.length)[j - tgs.length]? = some (some v):=by
              rw [kp,List.getElem?_drop]
              rw [show tgs.length + (j - tgs.length)=j by omega]
              exact e
            rw [List.getElem?_drop,show tgs.length + (j - tgs.length)=j by omega] at e1
            exact e1
        . obtain⟨o,e,d⟩:=T.obj _ _ st7 b hb
          exact (I10.pin (b,o) (List.mem_append_right _ (List.mem_append_right _ (lD hb e)))).2.1
      cases ok with
      | false =>
        rw [if_neg (by decide)] at q9 ⊢
        obtain⟨m',ys',hm,w9⟩:=q9
        exact again I9 hm w9
      | true =>
        rw [if_pos rfl] at q9 ⊢
        have c:=he' _ s9 σ8 H9 _ I9 q9
        rw [eEnv,eA,eP,eW,eX] at c
        refine wpAny_mono c (fun y s10 ⟨v10,H10,I10,r10,ys',ha10,hl10,m',hm,w10⟩=>?_) fun _ _ z=>z.elim
        have d:=tV (X:=X') _ s10 σ8 H10 (.ref s.heap.objs.size) [v10] (.ref s.heap.objs.size) [y] (fun _ H11=>W (i + 1) m' (ys' ++ [v10]) H11) I10 rfl (.cons r10 .nil) ⟨_,ys',v10,rfl,rfl,ha10,hl10,w10⟩
        rw [eA,eP,eW,eX] at d
        refine wpAny_mono d (fun _ s11 ⟨_,H11,I11,_,w11⟩=>again I11 hm w11) fun _ _ z=>z.elim
  exact codeAny_compStart_list loop (T.self _ 0 _ _ _ (T.keep _ _ _ st2 fun b hb o e=>keep4 _ _ (kept3 _ _ e)) loop)
theorem D9 {wi:TI}(hc:X.calm=true) (chk:gY X.env.scope X.N scope fr=true) (hi:PI X tg iter wi)
    (hg:∀ cl C s0 H0 ex pins,PG (fM X (fD tgs fr X.N) scope cl C s0 H0 ex pins) tg g)
    (ht:∀ cl C s0 H0 ex pins,PTs (fM X (fD tgs fr X.N) scope cl C s0 H0 ex pins) ifs tt)
    (he:∀ cl C s0 H0 ex pins,PE (fM X (fD tgs fr X.N) scope cl C s0 H0 ex pins) elt te)
    (hs:∀ x,foldedSetIterable iter X.env x=pure x:=by intro _;rfl) :
    PE X (.ListComp elt [⟨tg,iter,ifs,0⟩] scope pos) (T1 wi tgs.length fr g tt te):=by
  intro pins s σ H Q I h
  have chk':=chk
  simp only [gY,Bool.and_eq_true,List.all_eq_true] at chk'
  obtain⟨⟨⟨⟨c1,c2⟩,c3⟩,c4⟩,c5⟩:=chk'
  obtain⟨cl,ecl,hcl1,hcl2⟩:=nJ (scope:=scope) (env:=X.env) fun n hn=>I.ok.has n (by have:=c3 _ hn;show X.env.scope.names.lookup n=_ \/ X.env.scope.names.lookup n=_;simpa using this)
  rw [eval_ListComp]
  refine wpAny_comprehension_free (use:=none) rfl hs ecl (by simpa using c1) (fun x hx hl=>by have:=c5 x hx;rw [hl] at this;simpa using this) (thn (hi pins s σ H _ I h) fun x s1 h1=>thn h1 fun itv s2 h2=>?_)
  obtain⟨it,fp,tn,J,H2,rfl,I2,T,st2,f2,rd⟩:=h2
  refine yB (R:=Q) (RR:=fun acc C=>compPost (model X.prog X.w) X.A X.xe none (EP X pins σ Q) acc C) I2 T st2 f2 hc chk hcl1 hcl2 hg ht he rd ?_
  intro D C s' Hend m I' hn hf hL hsz hcs hps q
  exact⟨m,hn,fun h' hs'=>⟨.ref D,Hend,I'.turned (t':=s'.toks) (fun b o hb e=>hs'.extBut b o hb e) hf hL (.inr hsz) hcs hps,rfl,q⟩⟩
theorem zI {wi:TI}{i:Nat}{x:Str}{pos' spos:Pos}(hc:X.calm=true) (hN:X.N.Nodup) (hi':X.N[i]? = some x) (hx:Loc X.env.scope x) (chk:gY X.env.scope X.N scope fr=true) (hi:PI X tg iter wi)
    (hg:∀ cl C s0 H0 ex pins,PG (fM X (fD tgs fr X.N) scope cl C s0 H0 ex pins) tg g)
    (ht:∀ cl C s0 H0 ex pins,PTs (fM X (fD tgs fr X.N) scope cl C s0 H0 ex pins) ifs tt)
    (he:∀ cl C s0 H0 ex pins,PE (fM X (fD tgs fr X.N) scope cl C s0 H0 ex pins) elt te)
    (hsw:swapsWith (.ListComp elt [⟨tg,iter,ifs,0⟩] scope pos) (some (.Name x pos')) spos.line X.env=pure true)
    (hf:X.fn x=true \/ X.env.scope.names.lookup x=some .local:=by first | exact .inl rfl | exact .inr rfl | assumption)
    (hs:∀ x,foldedSetIterable iter X.env x=pure x:=by intro _;rfl) :
    PS X (.Assign [.Name x pos'] (.ListComp elt [⟨tg,iter,ifs,0⟩] scope pos) spos) (K8 (T1 wi tgs.length fr g tt te) (uE i)):=by
  intro pins s σ H D I h
  have chk':=chk
  simp only [gY,Bool.and_eq_true,List.all_eq_true] at chk'
  obtain⟨⟨⟨⟨c1,c2⟩,c3⟩,c4⟩,c5⟩:=chk'
  obtain⟨cl,ecl,hcl1,hcl2⟩:=nJ (scope:=scope) (env:=X.env) fun n hn=>I.ok.has n (by have:=c3 _ hn;show X.env.scope.names.lookup n=_ \/ X.env.scope.names.lookup n=_;simpa using this)
  rw [exec_Assign_Name_used _ _ _ _ hsw]
  refine wpAny_bind (wpAny_standAt (wpAny_bind ?_))
  show wpAny _ X.A (do let _ <- comprehension (.ListComp elt [⟨tg,iter,ifs,0⟩] scope pos) scope X.env _ (newList []) false (eval iter X.env) (some (assign (.Name x pos') X.env))) _ _ s
  refine wpAny_bind (wpAny_mono (wpAny_comprehension_free (use:=some (assign (.Name x pos') X.env)) (Q:=fun _ s'=>SP X pins D .next s') rfl hs ecl (by simpa using c1) (fun x hx hl=>by have:=c5 x hx;rw [hl] at this;simpa using this)
    (thn (hi pins s σ H _ I h) fun x s1 h1=>thn h1 fun itv s2 h2=>?_)) (fun _ s' hq=>wpAny_pure (wpAny_pure hq)) fun _ _ e=>e)
  obtain⟨it,fp,tn,J,H2,rfl,I2,T,st2,f2,rd⟩:=h2
  refine yB (RR:=fun acc C=>compPost (model X.prog X.w) X.A X.xe (some (assign (.Name _ pos') X.env)) (fun _ s'=>SP X pins D .next s') acc C) I2 T st2 f2 hc chk hcl1 hcl2 hg ht he rd ?_
  intro Da C s' Hend m I' hn hf' hL hsz hcs hps q
  show wpAny _ X.A (assign (.Name _ pos') X.env (.ref Da)) _ _ s'
  refine wpAny_assign_Name (tL I' hN hi' hx (v:=.ref Da) (u:=.ref Da) rfl (fun s'' I'' ⟨a,hsa,ha⟩=>?_) hf)
  have hCa:C ≠ a:=by
    rcases ha with z | z
    . rw [z];exact hL
    . exact fun e=>hcs _ _ z e.symm
  exact⟨m,hn.sameBut hsa hCa,fun h' hs'=>⟨_,Hend,I''.turned (t':=s''.toks) (fun b o hb e=>hs'.extBut b o hb e) hf' hL (.inr hsz) hcs hps,q⟩⟩
end
noncomputable def Ite (K:Frag) (a:Addr):It :=
  ⟨fun i H=>∃ xs x,SqL K H a xs /\ xs[i]? = some x,fun i H x H'=>∃ p y,H p=none /\ x=.ref p /\ (∀ xs,SqL K H a xs->xs[i]? = some y) /\ H'=upd H p (.tup [.int (i:Int),y]),fun i H=>∃ xs,SqL K H a xs /\ xs.length <= i⟩
theorem K1 {P:Program}{w:World}{K:Frag}{elts:List Expr}{k1:Nat}{pos:Pos}(a e it:Addr) (hne:e ≠ it) :
    vV P w K (.Tuple elts k1 pos) (Ite K a) [e,it] e (fun i h=>(∃ old,IsEnum h e it i old) /\ h.IsListIter it a i) where
  mem:=by simp
  obj:=fun i h st b hb=>by
    obtain⟨⟨old,he⟩,o,e',c,d⟩:=st
    rcases List.mem_cons.mp hb with z | z
    . subst z;exact⟨_,he,fun v q=>by cases q⟩
    . have z:b=it:=by simpa using z
      subst z;exact⟨o,e',fun v q=>by rw [d] at q;cases q⟩
  keep:=fun i h h' st k=>⟨let ⟨old,he⟩:=st.1;⟨old,k e (by simp) _ he⟩,st.2.at fun o q=>k it (by simp) o q⟩
  item:=by
    intro X hP hw hK hc i pins s σ H E I hf st hg
    subst hP hw hK
    obtain⟨xs,x,hq,hx⟩:=hg
    obtain⟨its,rv,p,hz⟩:=I.list hq
    obtain⟨u,hu,ru⟩:=rv.get hx
    obtain⟨⟨old,he⟩,hit⟩:=st
    have fe:=hf e (by simp)
    have fi:=hf it (by simp)
    refine wpAny_pyNext_enum_item he hit p.isList (x:=u) (by simpa using hu) hne fun h' ho hit' hT hsz hk=>?_
    refine⟨_,rfl,wpAny_letOwnedTupleGo_enum (s:={ s with heap:=h',toks:=s.toks + 1 }) ho fun h'' he'' hs''=>?_⟩
    have hfr:H s.heap.objs.size=none:=I.fresh
    have lt:∀ b o,s.heap.get? b=some o->b ≠ s.heap.objs.size:=fun b o q=>Nat.ne_of_lt (Heap.lt_size q)
    have kp:∀ b o,b ≠ e->b ≠ it->s.heap.get? b=some o->h''.get? b=some o:=fun b o h1 h2 q=>(hs''.2 b h1).trans (hk b o h1 h2 q)
    have hee:e ≠ s.heap.objs.size:=lt _ _ he
    have nch:∀ b u,H b=some u->b ≠ e /\ b ≠ it:=fun b u q=>⟨fun z=>(by rw [z,fe.1] at q;cases q),fun z=>(by rw [z,fi.1] at q;cases q)⟩
    refine⟨.ref s.heap.objs.size,upd H s.heap.objs.size (.tup [.int (i:Int),x]),?_,rfl,⟨_,x,hfr,rfl,fun ys hy=>by rw [I.list_inj hy hq];exact hx,rfl⟩,⟨⟨_,by simpa using he''⟩,hit'.at fun o q=>(hs''.2 it (Ne.symm hne)).trans q⟩,fun b hb=>?_⟩
    . refine Inv.step (s:=s) (h':=h'') (t':=s.toks + 1) (H':=upd H s.heap.objs.size (.tup [.int (i:Int),x])) (g':=s.gens) (d':=s.drawn) (ch:=[e,it]) I (fun b hb=>?_) (fun b o _ _ hc q _=>kp b o (fun z=>hc (by simp [z])) (fun z=>hc (by simp [z])) q) (fun b o _ _ hc q _=>⟨o.slots,kp b o (fun z=>hc (by simp [z])) (fun z=>hc (by simp [z])) q⟩)
        (fun b o _ q n=>by rw [aM (lt b o q)];exact n) (fun b o hc q=>⟨o,kp b o (fun z=>hc (by simp [z])) (fun z=>hc (by simp [z])) q⟩)
        (fun b ys q=>by rw [aM (aR q hfr)];exact q) (fun b o u q=>by rw [aM (aR q hfr)];exact q) (fun b ps q=>⟨#[],by rw [aM (aR q hfr),q];simp⟩) (fun m hm=>?_) (fun b u q=>?_) I.bare
      . rcases List.mem_cons.mp hb with z | z
        . subst z;exact⟨fe.2.2.2.1,fe.2.1,fe.2.2.2.2.1,fe.2.2.2.2.2⟩
        . have z:b=it:=by simpa using z
          subst z;exact⟨fi.2.2.2.1,fi.2.1,fi.2.2.2.2.1,fi.2.2.2.2.2⟩
      . obtain⟨o,es,ep,ho,r⟩:=hm
        exact⟨o,es,ep,kp _ o (Ne.symm fe.2.1) (Ne.symm fi.2.1) ho,r⟩
      . by_cases hb:b=s.heap.objs.size
        . subst hb
          rw [aV] at q;cases q
          refine⟨by show 2 <= sizeLine;decide,[.int (i:Int) s.toks,u],.cons ⟨_,rfl⟩ (.cons ru .nil),_,(hs''.2 _ (Ne.symm hee)).trans hT,rfl,_,rfl⟩
        . rw [aM hb] at q
          refine (I.hok b u q).stay (fun c v hc z=>?_) (fun c z=>by rw [aM (aR z hfr)];exact z) fun c ys z=>by rw [aM (aR z hfr)];exact z
          rcases hc with y | y
          . rw [y] at z ⊢;exact kp _ _ (nch b u q).1 (nch b u q).2 z
          . exact kp _ _ (nch c _ y).1 (nch c _ y).2 z
    . have hb':b < s.heap.objs.size:=by
        rcases List.mem_cons.mp hb with z | z
        . subst z;exact Heap.lt_size he
        . have z:b=it:=by simpa using z
          subst z;obtain⟨o,q,_⟩:=hit;exact Heap.lt_size q
      rw [aM (Nat.ne_of_lt hb')]
      exact (hf b hb).1
  done:=by
    intro X hP hw hK hc i pins s σ H E I hf st hg
    subst hP hw hK
    obtain⟨xs,hq,hx⟩:=hg
    obtain⟨its,rv,p,hz⟩:=I.list hq
    obtain⟨⟨old,he⟩,hit⟩:=st
    obtain⟨f0,f1,f2,f3,f4,f5⟩:=hf it (by simp)
    have hl:=rv.length
    exact wpAny_pyNext_enum_end (I.ok.hd hc) he hit p.isList (by simp;omega) fun h' eb=>⟨rfl,I.turned (t':=s.toks) (fun b o hb e=>eb b o hb e) f0 f1 f3 f4 f5⟩
  self:=fun _ _ _ _ _ st h=>wpAny_pyIter_enum st.1.choose_spec h
section
variable {X:Cx}{tg:Expr}{elts:List Expr}{k1:Nat}{tpos:Pos}
noncomputable def Z3u (K:Frag) (ta:TA):TI:=fun σ H R=>ta σ H fun vs H1=>∃ a,vs=[.ref a] /\ (∃ xs,SqL K H1 a xs) /\ R (Ite K a) H1
theorem Z0Z {l:Expr}{ta:TA}{p pos:Pos}(hg:Gl X "enumerate") (hm:X.mg "enumerate" = none) (ha:PA X [l] ta) (hs:starEach [l] X.env=[(false,eval l X.env)]:=by rfl) :
    PI X (.Tuple elts k1 tpos) (.Call (.Name "enumerate" p) [l] [] pos) (Z3u X.K ta):=by
  intro pins s σ H R I h
  refine Call_ (nF I hg hm PyProof.Rows.boot_enumerate (PyProof.Rows.callWith_type1 (thn (ha pos pins s σ H _ I h) fun us s1 ⟨vs,H1,I1,r1,q1⟩=>?_) hs rfl))
  obtain⟨a,rfl,⟨xs,hq⟩,q⟩:=q1
  cases r1 with
  | cons r rr =>
    cases rr
    cases r
    obtain⟨its,rv,pl,hz⟩:=I1.list hq
    refine call_enumerate_list pl.isList fun h' he hit hsz hk=>?_
    refine wpAny_pyIter_enum (s:={ s1 with heap:=h' }) he ?_
    have I2:Inv X pins σ H1 { s1 with heap:=h' }:=I1.kept (t':=s1.toks) hk
    refine⟨s1.heap.objs.size + 1,[s1.heap.objs.size + 1,s1.heap.objs.size],_,_,H1,rfl,I2,K1 a _ _ (Nat.succ_ne_self _),⟨⟨_,he⟩,hit⟩,fun b hb=>?_,q⟩
    have hb':s1.heap.objs.size <= b:=by
      rcases List.mem_cons.mp hb with z | z
      . rw [z];exact Nat.le_succ _
      . have z:b=s1.heap.objs.size:=by simpa using z
        rw [z];exact Nat.le_refl _
    exact I1.fpOk hb' (I1.hok.fresh hb')
end
end L2
namespace PD
open PySem PySem.Spec PyProof.Rows L2
inductive D where
  | non | bl (b:Bool) | int (i:Int) | str (x:Str) | tup (xs:List D) | lst (xs:List D) | obj (C:Addr) (ns:List Str) (xs:List D) | dk (ks:List Key) (xs:List D) | dt (ks:List (List Key)) (xs:List D) | exc (C:Addr) | fn (a:Addr) (vs:List V) (xs:List D)
noncomputable def Z3p (a:Addr) (cls:Value):Heap->Prop:=fun h=>∃ oe vs,h.get? a=some oe /\ oe.cls=cls /\ oe.data=.fields vs
mutual
noncomputable def flat:D->Bool
  | .non=>true
  | .bl _=>true
  | .int _=>true
  | .str _=>true
  | .tup xs=>flats xs
  | .lst _=>false
  | .obj _ _ _=>false
  | .dk _ _=>false
  | .dt _ _=>false
  | .exc _=>false
  | .fn _ _ _=>false
noncomputable def flats:List D->Bool
  | []=>true
  | x :: r=>flat x && flats r
end
noncomputable def FzL (K:Frag) (H:Hp) (a:Addr) (vs:List V):Prop:=(∃ o,H a=some (.frz o (.lst vs))) \/
    ∃ (o:Obj) (its:Array Value) (n:Nat),K.lookup a=some o /\ o.cls=.type "list" /\ o.dict=none /\ o.data=.seq its n /\ its.size <= sizeLine /\ Vals vs its.toList
theorem FzL.sq {K:Frag}{H:Hp}{a:Addr}{vs:List V}(h:FzL K H a vs):SqL K H a vs:=by
  rcases h with ⟨o,h⟩ | h
  . exact .inl (.inr ⟨o,h⟩)
  . exact .inr h
theorem T3 {K:Frag}{H:Hp}{a:Addr}{vs:List V}(h:SqL K H a vs):H a=some (.lst vs) \/ FzL K H a vs:=by
  rcases h with (h | ⟨o,h⟩) | h
  . exact .inl h
  . exact .inr (.inl ⟨o,h⟩)
  . exact .inr (.inr h)
mutual
noncomputable def Rep (K:Frag) (st:Bool) (H:Hp):D->V->List Addr->Prop
  | .non,v,fp=>v=.non /\ fp=[]
  | .bl b,v,fp=>v=.bl b /\ fp=[]
  | .int i,v,fp=>v=.int i /\ fp=[]
  | .str x,v,fp=>v=.str x /\ fp=[]
  | .tup ds,v,fp=>∃ a vs,v=.ref a /\ SqT K H a vs /\ Reps K st H ds vs fp
  | .lst ds,v,fp=>∃ a vs fp',v=.ref a /\ Reps K st H ds vs fp' /\ ((fp=a :: fp' /\ H a=some (.lst vs)) \/ (st=false /\ fp=fp' /\ FzL K H a vs))
  | .obj C ns ds,v,fp=>∃ a dx vs fp',v=.ref a /\ fp=a :: fp' /\ H a=some (.ins C dx (ns.zip vs)) /\ ns.length=vs.length /\ Reps K st H ds vs fp'
  | .dk ks ds,v,fp=>∃ a vs fp',v=.ref a /\ fp=a :: fp' /\ H a=some (.dK (ks.zip vs)) /\ ks.length=vs.length /\ Reps K st H ds vs fp'
  | .dt ks ds,v,fp=>∃ a es ep vs fp',v=.ref a /\ es.map (·.1)=ks /\ es.map (·.2.2)=vs /\ (∀ e ∈ es,SqT K H e.2.1 (e.1.map kV)) /\ Reps K st H ds vs fp' /\ ((fp=a :: fp' /\ H a=some (.dE es ep)) \/ (st=false /\ fp=fp' /\ ∃ o,H a=some (.frz o (.dE es ep))))
  | .exc C,v,fp=>∃ a,v=.ref a /\ fp=[a] /\ H a=some (.ext (Z3p a (.ref C)))
  | .fn a vs ds,v,fp=>v=.ref a /\ Reps K st H ds vs fp
noncomputable def Reps (K:Frag) (st:Bool) (H:Hp):List D->List V->List Addr->Prop
  | [],vs,fp=>vs=[] /\ fp=[]
  | d :: ds,vs,fp=>∃ v r f1 f2,vs=v :: r /\ fp=f1 ++ f2 /\ Rep K st H d v f1 /\ Reps K st H ds r f2
end
section
variable {K:Frag}{st:Bool}{H H':Hp}
structure Kp (fp:List Addr) (H H':Hp):Prop where
  fps:∀ b ∈ fp,∀ o,H b=some o->H' b=some o
  tup:∀ b xs,H b=some (.tup xs)->H' b=some (.tup xs)
  frz:∀ b o u,H b=some (.frz o u)->H' b=some (.frz o u)
theorem Kp.same (e:Same H H') (fp:List Addr):Kp fp H H':=⟨fun b _ o h=>e b o h,fun b xs h=>e _ _ h,fun b o u h=>e _ _ h⟩
theorem Kp.sub {fp fp':List Addr}(k:Kp fp H H') (h:∀ b ∈ fp',b ∈ fp):Kp fp' H H':=⟨fun b hb=>k.fps b (h b hb),k.tup,k.frz⟩
theorem Kp.upd {a:Addr}{o o':HO}{fp:List Addr}(h:H a=some o) (hm:∀ xs,o ≠ .tup xs) (hf:∀ x u,o ≠ .frz x u) (hn:a ∉ fp):Kp fp H (L2.upd H a o') :=
  ⟨fun b hb u e => by have hba : b ≠ a := (fun z => hn (by rw [<- z]; exact hb)); rw [aM hba]; exact e,
   fun b xs e=>by rw [aM (fun z=>by rw [z,h] at e;exact hm xs (Option.some.inj e))];exact e,
   fun b x u e=>by rw [aM (fun z=>by rw [z,h] at e;exact hf x u (Option.some.inj e))];exact e⟩
theorem zA {fp:List Addr}(k:Kp fp H H') {a:Addr}{xs:List V}(h:SqT K H a xs):SqT K H' a xs:=by
  rcases h with (h | ⟨o,h⟩) | h
  . exact .inl (.inl (k.tup _ _ h))
  . exact .inl (.inr ⟨o,k.frz _ _ _ h⟩)
  . exact .inr h
theorem Z2C {fp:List Addr}(k:Kp fp H H') {a:Addr}{xs:List V}(h:FzL K H a xs):FzL K H' a xs:=by
  rcases h with ⟨o,h⟩ | h
  . exact .inl ⟨o,k.frz _ _ _ h⟩
  . exact .inr h
mutual
theorem Rep.keep:∀ (d:D) (v:V) (fp:List Addr),Kp fp H H'->Rep K st H d v fp->Rep K st H' d v fp
  | .non,v,fp,_,h=>by simpa only [Rep] using h
  | .bl b,v,fp,_,h=>by simpa only [Rep] using h
  | .int i,v,fp,_,h=>by simpa only [Rep] using h
  | .str x,v,fp,_,h=>by simpa only [Rep] using h
  | .tup ds,v,fp,k,h=>by
    simp only [Rep] at h ⊢
    obtain⟨a,vs,e,hs,hr⟩:=h
    exact⟨a,vs,e,zA k hs,Reps.keep ds vs fp k hr⟩
  | .lst ds,v,fp,k,h=>by
    simp only [Rep] at h ⊢
    obtain⟨a,vs,fp',e,hr,hs⟩:=h
    rcases hs with ⟨rfl,hs⟩ | ⟨h1,rfl,hs⟩
    . exact⟨a,vs,fp',e,Reps.keep ds vs fp' (k.sub fun b hb=>List.mem_cons_of_mem _ hb) hr,.inl ⟨rfl,k.fps a List.mem_cons_self _ hs⟩⟩
    . exact⟨a,vs,fp,e,Reps.keep ds vs fp k hr,.inr ⟨h1,rfl,Z2C k hs⟩⟩
  | .obj C ns ds,v,fp,k,h=>by
    simp only [Rep] at h ⊢
    obtain⟨a,dx,vs,fp',e,rfl,hs,hl,hr⟩:=h
    exact⟨a,dx,vs,fp',e,rfl,k.fps a List.mem_cons_self _ hs,hl,Reps.keep ds vs fp' (k.sub fun b hb=>List.mem_cons_of_mem _ hb) hr⟩
  | .dk ks ds,v,fp,k,h=>by
    simp only [Rep] at h ⊢
    obtain⟨a,vs,fp',e,rfl,hs,hl,hr⟩:=h
    exact⟨a,vs,fp',e,rfl,k.fps a List.mem_cons_self _ hs,hl,Reps.keep ds vs fp' (k.sub fun b hb=>List.mem_cons_of_mem _ hb) hr⟩
  | .dt ks ds,v,fp,k,h=>by
    simp only [Rep] at h ⊢
    obtain⟨a,es,ep,vs,fp',e,hk,hv,ht,hr,hs⟩:=h
    rcases hs with ⟨rfl,hs⟩ | ⟨h1,rfl,o,hs⟩
    . exact⟨a,es,ep,vs,fp',e,hk,hv,fun e he=>zA k (ht e he),Reps.keep ds vs fp' (k.sub fun b hb=>List.mem_cons_of_mem _ hb) hr,.inl ⟨rfl,k.fps a List.mem_cons_self _ hs⟩⟩
    . exact⟨a,es,ep,vs,fp,e,hk,hv,fun e he=>zA k (ht e he),Reps.keep ds vs fp k hr,.inr ⟨h1,rfl,o,k.frz _ _ _ hs⟩⟩
  | .exc C,v,fp,k,h=>by
    simp only [Rep] at h ⊢
    obtain⟨a,e,rfl,hs⟩:=h
    exact⟨a,e,rfl,k.fps a List.mem_cons_self _ hs⟩
  | .fn a vs ds,v,fp,k,h=>by
    simp only [Rep] at h ⊢
    exact⟨h.1,Reps.keep ds vs fp k h.2⟩
theorem Reps.keep:∀ (ds:List D) (vs:List V) (fp:List Addr),Kp fp H H'->Reps K st H ds vs fp->Reps K st H' ds vs fp
  | [],vs,fp,_,h=>by simpa only [Reps] using h
  | d :: ds,vs,fp,k,h=>by
    simp only [Reps] at h ⊢
    obtain⟨v,r,f1,f2,e1,rfl,h1,h2⟩:=h
    exact⟨v,r,f1,f2,e1,rfl,Rep.keep d v f1 (k.sub fun b hb=>List.mem_append_left _ hb) h1,Reps.keep ds r f2 (k.sub fun b hb=>List.mem_append_right _ hb) h2⟩
end
theorem Rep.same {d:D}{v:V}{fp:List Addr}(e:Same H H') (h:Rep K st H d v fp):Rep K st H' d v fp:=Rep.keep d v fp (Kp.same e fp) h
theorem Reps.same {ds:List D}{vs:List V}{fp:List Addr}(e:Same H H') (h:Reps K st H ds vs fp):Reps K st H' ds vs fp:=Reps.keep ds vs fp (Kp.same e fp) h
mutual
theorem Rep.dom:∀ (d:D) (v:V) (fp:List Addr),Rep K st H d v fp->∀ b ∈ fp,∃ o,H b=some o
  | .non,v,fp,h,b,hb=>by simp only [Rep] at h;rw [h.2] at hb;cases hb
  | .bl _,v,fp,h,b,hb=>by simp only [Rep] at h;rw [h.2] at hb;cases hb
  | .int _,v,fp,h,b,hb=>by simp only [Rep] at h;rw [h.2] at hb;cases hb
  | .str _,v,fp,h,b,hb=>by simp only [Rep] at h;rw [h.2] at hb;cases hb
  | .tup ds,v,fp,h,b,hb=>by
    simp only [Rep] at h
    obtain⟨a,vs,e,hs,hr⟩:=h
    exact Reps.dom ds vs fp hr b hb
  | .lst ds,v,fp,h,b,hb=>by
    simp only [Rep] at h
    obtain⟨a,vs,fp',e,hr,hs⟩:=h
    rcases hs with ⟨rfl,hs⟩ | ⟨_,rfl,hs⟩
    . rcases List.mem_cons.mp hb with z | z
      . exact⟨_,z ▸ hs⟩
      . exact Reps.dom ds vs fp' hr b z
    . exact Reps.dom ds vs fp hr b hb
  | .obj C ns ds,v,fp,h,b,hb=>by
    simp only [Rep] at h
    obtain⟨a,dx,vs,fp',e,rfl,hs,hl,hr⟩:=h
    rcases List.mem_cons.mp hb with z | z
    . exact⟨_,z ▸ hs⟩
    . exact Reps.dom ds vs fp' hr b z
  | .dk ks ds,v,fp,h,b,hb=>by
    simp only [Rep] at h
    obtain⟨a,vs,fp',e,rfl,hs,hl,hr⟩:=h
    rcases List.mem_cons.mp hb with z | z
    . exact⟨_,z ▸ hs⟩
    . exact Reps.dom ds vs fp' hr b z
  | .dt ks ds,v,fp,h,b,hb=>by
    simp only [Rep] at h
    obtain⟨a,es,ep,vs,fp',e,hk,hv,ht,hr,hs⟩:=h
    rcases hs with ⟨rfl,hs⟩ | ⟨_,rfl,o,hs⟩
    . rcases List.mem_cons.mp hb with z | z
      . exact⟨_,z ▸ hs⟩
      . exact Reps.dom ds vs fp' hr b z
    . exact Reps.dom ds vs fp hr b hb
  | .exc C,v,fp,h,b,hb=>by
    simp only [Rep] at h
    obtain⟨a,e,rfl,hs⟩:=h
    rw [List.mem_singleton.mp hb]
    exact⟨_,hs⟩
  | .fn a vs ds,v,fp,h,b,hb=>by
    simp only [Rep] at h
    exact Reps.dom ds vs fp h.2 b hb
theorem Reps.dom:∀ (ds:List D) (vs:List V) (fp:List Addr),Reps K st H ds vs fp->∀ b ∈ fp,∃ o,H b=some o
  | [],vs,fp,h,b,hb=>by simp only [Reps] at h;rw [h.2] at hb;cases hb
  | d :: ds,vs,fp,h,b,hb=>by
    simp only [Reps] at h
    obtain⟨v,r,f1,f2,e1,rfl,h1,h2⟩:=h
    rcases List.mem_append.mp hb with z | z
    . exact Rep.dom d v f1 h1 b z
    . exact Reps.dom ds r f2 h2 b z
end
mutual
theorem Rep.flat:∀ (d:D) (v:V) (fp:List Addr),PD.flat d=true->Rep K st H d v fp->fp=[] /\ ∀ st',Rep K st' H d v []
  | .non,v,fp,_,h=>by simp only [Rep] at h ⊢;exact⟨h.2,fun _=>⟨h.1,trivial⟩⟩
  | .bl _,v,fp,_,h=>by simp only [Rep] at h ⊢;exact⟨h.2,fun _=>⟨h.1,trivial⟩⟩
  | .int _,v,fp,_,h=>by simp only [Rep] at h ⊢;exact⟨h.2,fun _=>⟨h.1,trivial⟩⟩
  | .str _,v,fp,_,h=>by simp only [Rep] at h ⊢;exact⟨h.2,fun _=>⟨h.1,trivial⟩⟩
  | .tup ds,v,fp,f,h=>by
    simp only [Rep] at h ⊢
    obtain⟨a,vs,e,hs,hr⟩:=h
    obtain⟨h1,h2⟩:=Reps.flat ds vs fp (by simpa only [PD.flat] using f) hr
    exact⟨h1,fun st'=>⟨a,vs,e,hs,h2 st'⟩⟩
  | .lst ds,v,fp,f,h=>by simp only [PD.flat] at f;cases f
  | .obj C ns ds,v,fp,f,h=>by simp only [PD.flat] at f;cases f
  | .dk ks ds,v,fp,f,h=>by simp only [PD.flat] at f;cases f
  | .dt ks ds,v,fp,f,h=>by simp only [PD.flat] at f;cases f
  | .exc C,v,fp,f,h=>by simp only [PD.flat] at f;cases f
  | .fn a vs ds,v,fp,f,h=>by simp only [PD.flat] at f;cases f
theorem Reps.flat:∀ (ds:List D) (vs:List V) (fp:List Addr),flats ds=true->Reps K st H ds vs fp->fp=[] /\ ∀ st',Reps K st' H ds vs []
  | [],vs,fp,_,h=>by simp only [Reps] at h ⊢;exact⟨h.2,fun _=>⟨h.1,trivial⟩⟩
  | d :: ds,vs,fp,f,h=>by
    simp only [Reps] at h ⊢
    simp only [flats,Bool.and_eq_true] at f
    obtain⟨v,r,f1,f2,e1,rfl,h1,h2⟩:=h
    obtain⟨a1,a2⟩:=Rep.flat d v f1 f.1 h1
    obtain⟨b1,b2⟩:=Reps.flat ds r f2 f.2 h2
    subst a1 b1
    exact⟨rfl,fun st'=>⟨v,r,[],[],e1,rfl,a2 st',b2 st'⟩⟩
end
mutual
theorem Rep.weak:∀ (d:D) (v:V) (fp:List Addr),Rep K st H d v fp->Rep K false H d v fp
  | .non,v,fp,h=>by simpa only [Rep] using h
  | .bl _,v,fp,h=>by simpa only [Rep] using h
  | .int _,v,fp,h=>by simpa only [Rep] using h
  | .str _,v,fp,h=>by simpa only [Rep] using h
  | .tup ds,v,fp,h=>by
    simp only [Rep] at h ⊢
    obtain⟨a,vs,e,hs,hr⟩:=h
    exact⟨a,vs,e,hs,Reps.weak ds vs fp hr⟩
  | .lst ds,v,fp,h=>by
    simp only [Rep] at h ⊢
    obtain⟨a,vs,fp',e,hr,hs⟩:=h
    refine⟨a,vs,fp',e,Reps.weak ds vs fp' hr,?_⟩
    rcases hs with hs | ⟨_,h1,h2⟩
    . exact .inl hs
    . exact .inr ⟨trivial,h1,h2⟩
  | .obj C ns ds,v,fp,h=>by
    simp only [Rep] at h ⊢
    obtain⟨a,dx,vs,fp',e,h1,hs,hl,hr⟩:=h
    exact⟨a,dx,vs,fp',e,h1,hs,hl,Reps.weak ds vs fp' hr⟩
  | .dk ks ds,v,fp,h=>by
    simp only [Rep] at h ⊢
    obtain⟨a,vs,fp',e,h1,hs,hl,hr⟩:=h
    exact⟨a,vs,fp',e,h1,hs,hl,Reps.weak ds vs fp' hr⟩
  | .dt ks ds,v,fp,h=>by
    simp only [Rep] at h ⊢
    obtain⟨a,es,ep,vs,fp',e,hk,hv,ht,hr,hs⟩:=h
    exact⟨a,es,ep,vs,fp',e,hk,hv,ht,Reps.weak ds vs fp' hr,hs.imp id fun⟨_,h2⟩=>⟨by trivial,h2⟩⟩
  | .exc C,v,fp,h=>by simpa only [Rep] using h
  | .fn a vs ds,v,fp,h=>by
    simp only [Rep] at h ⊢
    exact⟨h.1,Reps.weak ds vs fp h.2⟩
theorem Reps.weak:∀ (ds:List D) (vs:List V) (fp:List Addr),Reps K st H ds vs fp->Reps K false H ds vs fp
  | [],vs,fp,h=>by simpa only [Reps] using h
  | d :: ds,vs,fp,h=>by
    simp only [Reps] at h ⊢
    obtain⟨v,r,f1,f2,e1,e2,h1,h2⟩:=h
    exact⟨v,r,f1,f2,e1,e2,Rep.weak d v f1 h1,Reps.weak ds r f2 h2⟩
end
theorem Reps.length:∀ {ds:List D}{vs:List V}{fp:List Addr},Reps K st H ds vs fp->vs.length=ds.length
  | [],vs,fp,h=>by simp only [Reps] at h;rw [h.1];rfl
  | d :: ds,vs,fp,h=>by
    simp only [Reps] at h
    obtain⟨v,r,f1,f2,e1,e2,h1,h2⟩:=h
    rw [e1,List.length_cons,List.length_cons,Reps.length h2]
theorem Reps.get:∀ {ds:List D}{vs:List V}{fp:List Addr}{i:Nat}{d:D},Reps K st H ds vs fp->ds[i]? = some d->∃ v f,vs[i]? = some v /\ Rep K st H d v f /\ (∀ b ∈ f,b ∈ fp) /\ (fp.Nodup->f.Nodup)
  | [],vs,fp,i,d,h,e=>by simp at e
  | d :: ds,vs,fp,i,d',h,e=>by
    simp only [Reps] at h
    obtain⟨v,r,f1,f2,rfl,rfl,h1,h2⟩:=h
    cases i with
    | zero =>
      simp at e
      subst e
      exact⟨v,f1,rfl,h1,fun b hb=>List.mem_append_left _ hb,fun nd=>(List.nodup_append.mp nd).1⟩
    | succ i =>
      obtain⟨w,f,e1,e2,e3,e4⟩:=Reps.get h2 (by simpa using e)
      exact⟨w,f,by simpa using e1,e2,fun b hb=>List.mem_append_right _ (e3 b hb),fun nd=>e4 (List.nodup_append.mp nd).2.1⟩
theorem Reps.snoc:∀ {ds:List D}{vs:List V}{fp fd:List Addr}{d:D}{v:V},Reps K st H ds vs fp->Rep K st H d v fd->Reps K st H (ds ++ [d]) (vs ++ [v]) (fp ++ fd)
  | [],vs,fp,fd,d,v,h,hd=>by
    simp only [Reps] at h
    obtain⟨rfl,rfl⟩:=h
    simp only [List.nil_append,Reps]
    exact⟨v,[],fd,[],rfl,(List.append_nil _).symm,hd,rfl,rfl⟩
  | d' :: ds,vs,fp,fd,d,v,h,hd=>by
    simp only [Reps] at h
    obtain⟨w,r,f1,f2,rfl,rfl,h1,h2⟩:=h
    simp only [List.cons_append,Reps]
    exact⟨w,r ++ [v],f1,f2 ++ fd,rfl,List.append_assoc ..,h1,Reps.snoc h2 hd⟩
theorem Reps.append:∀ {ds es:List D}{vs us:List V}{fp fd:List Addr},Reps K st H ds vs fp->Reps K st H es us fd->Reps K st H (ds ++ es) (vs ++ us) (fp ++ fd)
  | [],es,vs,us,fp,fd,h,hd=>by
    simp only [Reps] at h
    obtain⟨rfl,rfl⟩:=h
    exact hd
  | d' :: ds,es,vs,us,fp,fd,h,hd=>by
    simp only [Reps] at h
    obtain⟨w,r,f1,f2,rfl,rfl,h1,h2⟩:=h
    simp only [List.cons_append,Reps]
    exact⟨w,r ++ us,f1,f2 ++ fd,rfl,List.append_assoc ..,h1,Reps.append h2 hd⟩
theorem bP {ds:List D}{v:V}{fp:List Addr}(h:Rep K st H (.lst ds) v fp):∃ a vs fp',v=.ref a /\ SqL K H a vs /\ Reps K st H ds vs fp' /\ (∀ b ∈ fp',b ∈ fp):=by
  simp only [Rep] at h
  obtain⟨a,vs,fp',e,hr,hs⟩:=h
  rcases hs with ⟨rfl,hs⟩ | ⟨_,rfl,hs⟩
  . exact⟨a,vs,fp',e,SqL.of hs,hr,fun b hb=>List.mem_cons_of_mem _ hb⟩
  . exact⟨a,vs,fp,e,hs.sq,hr,fun b hb=>hb⟩
theorem jC {ds:List D}{v:V}{fp:List Addr}(h:Rep K true H (.lst ds) v fp):∃ a vs fp',v=.ref a /\ fp=a :: fp' /\ H a=some (.lst vs) /\ Reps K true H ds vs fp':=by
  simp only [Rep] at h
  obtain⟨a,vs,fp',e,hr,hs⟩:=h
  rcases hs with ⟨e1,hs⟩ | ⟨z,_⟩
  . exact⟨a,vs,fp',e,e1,hs,hr⟩
  . cases z
end
noncomputable abbrev Slot:=Option (Bool × D)
noncomputable abbrev En:=List Slot
noncomputable def EnvOk (K:Frag) (H:Hp) (σ:L2.St) (env:En) (F:Nat->List Addr):Prop :=
  ∀ i o d,env[i]? = some (some (o,d))->∃ v,σ[i]? = some (some v) /\ Rep K false H d v (F i)
theorem EnvOk.same {K:Frag}{H H':Hp}{σ:L2.St}{env:En}{F:Nat->List Addr}(h:EnvOk K H σ env F) (e:Same H H'):EnvOk K H' σ env F :=
  fun i o d q=>let ⟨v,h1,h2⟩:=h i o d q;⟨v,h1,h2.same e⟩
noncomputable def Cond (F:Nat->List Addr) (H:Hp) (m:Bool) (rs:List Nat) (fp:List Addr):Prop:=(∀ b ∈ fp,H b=none \/ ∃ r ∈ rs,b ∈ F r) /\ (m=true->fp.Nodup /\ ∀ b ∈ fp,H b=none)
theorem Cond.nil {F:Nat->List Addr}{H:Hp}{m:Bool}{rs:List Nat}:Cond F H m rs []:=⟨fun b hb=>(by cases hb),fun _=>⟨List.nodup_nil,fun b hb=>(by cases hb)⟩⟩
theorem Cond.back {F:Nat->List Addr}{H H':Hp}{m:Bool}{rs:List Nat}{fp:List Addr}(c:Cond F H' m rs fp) (e:Same H H'):Cond F H m rs fp :=
  ⟨fun b hb=>(c.1 b hb).imp (fun z=>e.free z) id,fun hm=>⟨(c.2 hm).1,fun b hb=>e.free ((c.2 hm).2 b hb)⟩⟩
noncomputable def tD (K:Frag) (m:Bool) (rs:List Nat) (f:En->Option D):TE:=fun σ H Q =>
  ∃ env F d,EnvOk K H σ env F /\ f env=some d /\ ∀ v H' fp,Same H H'->Rep K m H' d v fp->Cond F H m rs fp->Q v H'
noncomputable def tDT (K:Frag) (f:En->Option Bool):TT:=fun σ H Q =>
  ∃ env F b,EnvOk K H σ env F /\ f env=some b /\ ∀ H',Same H H'->Q b H'
noncomputable def tDA (K:Frag) (m:Bool) (rs:List Nat) (f:En->Option (List D)):TA:=fun σ H Q =>
  ∃ env F ds,EnvOk K H σ env F /\ f env=some ds /\ ∀ vs H' fp,Same H H'->Reps K m H' ds vs fp->Cond F H m rs fp->Q vs H'
noncomputable def QE (X:Cx) (m:Bool) (rs:List Nat) (e:Expr) (f:En->Option D):Prop:=PE X e (tD X.K m rs f)
noncomputable def QT (X:Cx) (e:Expr) (f:En->Option Bool):Prop:=PT X e (tDT X.K f)
noncomputable def QW (X:Cx) (e:Expr) (f:En->Option Bool):Prop:=PW X e (tDT X.K f)
noncomputable def QA (X:Cx) (m:Bool) (rs:List Nat) (es:List Expr) (f:En->Option (List D)):Prop:=PA X es (tDA X.K m rs f)
section
variable {X:Cx}{m m':Bool}{rs rs':List Nat}{e a b c:Expr}{es rest:List Expr}{f fa fb fc:En->Option D}{g ga gb:En->Option Bool}{pos:Pos}
theorem QE.mk {t:TE}(h:PE X e t) (hi:∀ σ H Q,tD X.K m rs f σ H Q->t σ H Q):QE X m rs e f:=fun pins s σ H Q I q=>h pins s σ H Q I (hi σ H Q q)
theorem QT.mk {t:TT}(h:PT X e t) (hi:∀ σ H Q,tDT X.K g σ H Q->t σ H Q):QT X e g:=fun pins s σ H Q I q=>h pins s σ H Q I (hi σ H Q q)
theorem QW.mk {t:TT}(h:PW X e t) (hi:∀ σ H Q,tDT X.K g σ H Q->t σ H Q):QW X e g:=fun whole pins s σ H Q I q=>h whole pins s σ H Q I (hi σ H Q q)
theorem QW.qt (h:QW X e g):QT X e g:=h.pt
noncomputable def aB (i:Nat):En->Option D:=fun env=>(env[i]?).join.map (·.2)
noncomputable def fC (d:D):En->Option D:=fun _=>some d
noncomputable def fI2 (C:Int->Int->Prop) (g:Int->Int->D) (fa fb:En->Option D):En->Option D:=fun env =>
  match fa env,fb env with
  | some (.int i),some (.int j)=>open Classical in if C i j then some (g i j) else none
  | _,_=>none
noncomputable def fI0 (g:Int->Int->D) (fa fb:En->Option D):En->Option D:=fun env =>
  match fa env,fb env with
  | some (.int i),some (.int j)=>some (g i j)
  | _,_=>none
noncomputable def aW (f:En->Option D):En->Option D:=fun env=>match f env with
  | some d=>if flat d=true then some d else none
  | none=>none
noncomputable def fB (f:En->Option D):En->Option Bool:=fun env=>match f env with
  | some (.bl b)=>some b
  | _=>none
noncomputable def lI (f:En->Option Bool):En->Option D:=fun env=>(f env).map .bl
noncomputable def kC (f g:En->Option Bool):En->Option Bool:=fun env=>match f env with
  | some true=>g env
  | some false=>some false
  | none=>none
noncomputable def fOr (f g:En->Option Bool):En->Option Bool:=fun env=>match f env with
  | some false=>g env
  | some true=>some true
  | none=>none
noncomputable def iN (f:En->Option Bool):En->Option Bool:=fun env=>(f env).map (!·)
noncomputable def aL:En->Option (List D):=fun _=>some []
noncomputable def aC (f:En->Option D) (g:En->Option (List D)):En->Option (List D):=fun env=>match f env,g env with
  | some d,some ds=>some (d :: ds)
  | _,_=>none
noncomputable def iM (g:En->Option (List D)):En->Option D:=fun env=>match g env with
  | some ds=>if ds.length <= 1000 then some (.tup ds) else none
  | none=>none
noncomputable def jI (g:En->Option (List D)):En->Option D:=fun env=>match g env with
  | some ds=>if ds.length <= 1000 then some (.lst ds) else none
  | none=>none
theorem bJ {K:Frag}{H:Hp}{i:Int}{v:V}{fp:List Addr}(h:Rep K m H (.int i) v fp):v=.int i:=by simp only [Rep] at h;exact h.1
theorem eU {K:Frag}{H:Hp}{i:Bool}{v:V}{fp:List Addr}(h:Rep K m H (.bl i) v fp):v=.bl i:=by simp only [Rep] at h;exact h.1
theorem eY {K:Frag}{H:Hp}{i:Str}{v:V}{fp:List Addr}(h:Rep K m H (.str i) v fp):v=.str i:=by simp only [Rep] at h;exact h.1
theorem fU {K:Frag}{H:Hp}{v:V}{fp:List Addr}(h:Rep K m H .non v fp):v=.non:=by simp only [Rep] at h;exact h.1
theorem fZ {K:Frag}{H:Hp}{i:Int}:Rep K m H (.int i) (.int i) []:=by simp only [Rep];exact⟨trivial,trivial⟩
theorem lY {K:Frag}{H:Hp}{i:Bool}:Rep K m H (.bl i) (.bl i) []:=by simp only [Rep];exact⟨trivial,trivial⟩
theorem X8 {K:Frag}{H:Hp}{i:Str}:Rep K m H (.str i) (.str i) []:=by simp only [Rep];exact⟨trivial,trivial⟩
theorem oR {K:Frag}{H:Hp}:Rep K m H .non .non []:=by simp only [Rep];exact⟨trivial,trivial⟩
theorem aA (i:Nat) {x:Str}(hN:X.N[i]? = some x:=by rfl) (hv:Vis X.env.scope x:=by first | exact Or.inl rfl | exact Or.inr (Or.inl rfl) | exact Or.inr (Or.inr rfl)) (hd:(x == ("__debug__" : Str))=false:=by decide) (hcd:(x == ("__classdict__" : Str))=false:=by decide) :
    QE X false [i] (.Name x pos) (aB i) :=
  .mk (iK hN hv hd hcd) fun σ H Q ⟨env,F,d,ok,e,q⟩=>by
    unfold aB at e
    cases h1:env[i]? with
    | none=>rw [h1] at e;cases e
    | some o =>
      cases o with
      | none=>rw [h1] at e;cases e
      | some p =>
        rw [h1] at e
        obtain⟨ow,d'⟩:=p
        have e':d'=d:=Option.some.inj e
        subst e'
        obtain⟨v,hv,hr⟩:=ok i ow d' h1
        exact⟨v,hv,q v H _ (Same.refl H) hr ⟨fun b hb=>.inr ⟨i,by simp,hb⟩,fun z=>(by cases z)⟩⟩
theorem aG {i:Int}{j}:QE X m rs (.Constant (.int i) j pos) (fC (.int i)):=.mk pe_int fun σ H Q ⟨env,F,d,ok,e,q⟩=>by cases e;exact q _ _ _ (Same.refl H) fZ .nil
theorem nR {i:Bool}{j}:QE X m rs (.Constant (.bool i) j pos) (fC (.bl i)):=.mk Z3h fun σ H Q ⟨env,F,d,ok,e,q⟩=>by cases e;exact q _ _ _ (Same.refl H) lY .nil
theorem cF {i:Str}{j}:QE X m rs (.Constant (.str i) j pos) (fC (.str i)):=.mk Z2l fun σ H Q ⟨env,F,d,ok,e,q⟩=>by cases e;exact q _ _ _ (Same.refl H) X8 .nil
theorem V3 {j}:QE X m rs (.Constant .none j pos) (fC .non):=.mk Z2n fun σ H Q ⟨env,F,d,ok,e,q⟩=>by cases e;exact q _ _ _ (Same.refl H) oR .nil
theorem QE.weak (h:QE X true [] e f):QE X false rs e f:=.mk h fun σ H Q ⟨env,F,d,ok,e,q⟩ =>
  ⟨env,F,d,ok,e,fun v H' fp s r c=>q v H' fp s (Rep.weak _ _ _ r) ⟨fun b hb=>(c.1 b hb).imp id fun⟨r,hr,_⟩=>(by simp at hr),fun z=>(by cases z)⟩⟩
theorem QE.more (h:QE X false rs e f) (hs:∀ r ∈ rs,r ∈ rs'):QE X false rs' e f:=.mk h fun σ H Q ⟨env,F,d,ok,e,q⟩ =>
  ⟨env,F,d,ok,e,fun v H' fp s r c=>q v H' fp s r ⟨fun b hb=>(c.1 b hb).imp id fun⟨r,hr,z⟩=>⟨r,hs r hr,z⟩,c.2⟩⟩
theorem QE.flat (h:QE X m' rs e f):QE X m rs' e (aW f):=.mk h fun σ H Q ⟨env,F,d,ok,e,q⟩=>by
  unfold aW at e
  cases h1:f env with
  | none=>rw [h1] at e;cases e
  | some d' =>
    rw [h1] at e
    by_cases hf:PD.flat d'=true
    . simp only [hf,if_true] at e
      cases e
      refine⟨env,F,_,ok,h1,fun v H' fp s r c=>?_⟩
      obtain⟨e1,e2⟩:=Rep.flat _ _ _ hf r
      exact q v H' [] s (e2 _) .nil
    . simp only [hf] at e
      cases e
theorem two {K:Frag}{m1 m2:Bool}{rs1 rs2:List Nat}{σ:L2.St}{H:Hp}{env:En}{F:Nat->List Addr}{x y:D}{R:V->V->Hp->Prop}(ok:EnvOk K H σ env F) (ea:fa env=some x) (eb:fb env=some y)
    (h:∀ v u H' f1 f2,Same H H'->Rep K m1 H' x v f1->Rep K m2 H' y u f2->Cond F H m1 rs1 f1->Cond F H m2 rs2 f2->R v u H'):tD K m1 rs1 fa σ H fun v H1=>tD K m2 rs2 fb σ H1 fun u H2=>R v u H2 :=
  ⟨env,F,x,ok,ea,fun v H1 f1 s1 r1 c1=>⟨env,F,y,ok.same s1,eb,fun u H2 f2 s2 r2 c2=>h v u H2 f1 f2 (s1.trans s2) (r1.same s2) r2 c1 (c2.back s1)⟩⟩
variable {m1 m2:Bool}{rs1 rs2:List Nat}
theorem aQ {op:Operator}{C:Int->Int->Prop}{g:Int->Int->Int}(ho:OpR X (binaryOp op) (rI C fun i j=>.int (g i j))) (ha:QE X m1 rs1 a fa) (hb:QE X m2 rs2 b fb):QE X m rs (.BinOp a op b pos) (fI2 C (fun i j=>.int (g i j)) fa fb) :=
  .mk (pe_op ho ha hb) fun σ H Q ⟨env,F,d,ok,e,q⟩=>by
    unfold fI2 at e
    split at e
    . rename_i i j ea eb
      split at e
      . rename_i hc
        cases e
        refine two ok ea eb fun v u H' f1 f2 s r1 r2 _ _=>?_
        rw [bJ r1,bJ r2]
        exact⟨i,j,rfl,rfl,hc,q _ _ _ s fZ .nil⟩
      . cases e
    . cases e
theorem aX {op:Operator}{g:Int->Int->Int}(ho:OpR X (binaryOp op) (rI0 fun i j=>.int (g i j))) (ha:QE X m1 rs1 a fa) (hb:QE X m2 rs2 b fb):QE X m rs (.BinOp a op b pos) (fI0 (fun i j=>.int (g i j)) fa fb) :=
  .mk (pe_op ho ha hb) fun σ H Q ⟨env,F,d,ok,e,q⟩=>by
    unfold fI0 at e
    split at e
    . rename_i i j ea eb
      cases e
      refine two ok ea eb fun v u H' f1 f2 s r1 r2 _ _=>?_
      rw [bJ r1,bJ r2]
      exact⟨i,j,rfl,rfl,q _ _ _ s fZ .nil⟩
    . cases e
theorem D5 {op:CmpOp}{g:Int->Int->Bool}(ho:OpR X (compareOp op) (rI0 fun i j=>.bl (g i j))) (ha:QE X m1 rs1 a fa) (hb:QE X m2 rs2 b fb) (hm:behindInMarks op b=false):QE X m rs (.Compare a [op] [b] pos) (fI0 (fun i j=>.bl (g i j)) fa fb) :=
  .mk (uX ho ha hb hm) fun σ H Q ⟨env,F,d,ok,e,q⟩=>by
    unfold fI0 at e
    split at e
    . rename_i i j ea eb
      cases e
      refine two ok ea eb fun v u H' f1 f2 s r1 r2 _ _=>?_
      rw [bJ r1,bJ r2]
      exact⟨i,j,rfl,rfl,q _ _ _ s lY .nil⟩
    . cases e
theorem oI (h:QE X m rs e f) (he:∀ whole,isTrue e X.env whole=(do let v <- whole;standAt e.pos;holding [v] (truthy v)):=by intro _;rfl):QT X e (fB f) :=
  .mk (Z2f h he) fun σ H Q ⟨env,F,b,ok,e,q⟩=>by
    unfold fB at e
    split at e
    . rename_i b' e1
      cases e
      refine⟨env,F,_,ok,e1,fun v H' fp s r _=>?_⟩
      rw [eU r]
      exact⟨_,rfl,q H' s⟩
    . cases e
theorem rF {op:CmpOp}{r:R2}(ho:OpR X (compareOp op) r) (ha:QE X m1 rs1 a fa) (hb:QE X m2 rs2 b fb) (hm:behindInMarks op b=false)
    (hr:∀ env x y K H v u f1 f2 Q bb,g env=some bb->fa env=some x->fb env=some y->Rep K m1 H x v f1->Rep K m2 H y u f2->K=X.K->Q (V.bl bb) H->r v u H Q) (hn:∀ env bb,g env=some bb->∃ x y,fa env=some x /\ fb env=some y):QT X (.Compare a [op] [b] pos) g :=
  .mk (Z0T ho ha hb hm) fun σ H Q ⟨env,F,bb,ok,e,q⟩=>by
    obtain⟨x,y,ea,eb⟩:=hn env bb e
    exact two ok ea eb fun v u H' f1 f2 s r1 r2 _ _=>hr env x y _ H' v u f1 f2 _ bb e ea eb r1 r2 rfl ⟨_,rfl,q H' s⟩
noncomputable def fBI (p:Int->Int->Bool) (fa fb:En->Option D):En->Option Bool:=fun env=>match fa env,fb env with
  | some (.int i),some (.int j)=>some (p i j)
  | _,_=>none
theorem qK {op:CmpOp}{p:Int->Int->Bool}(ho:OpR X (compareOp op) (rI0 fun i j=>.bl (p i j))) (ha:QE X m1 rs1 a fa) (hb:QE X m2 rs2 b fb) (hm:behindInMarks op b=false):QT X (.Compare a [op] [b] pos) (fBI p fa fb) :=
  rF ho ha hb hm (fun env x y K H v u f1 f2 Q bb e ea eb r1 r2 _ q=>by
    unfold fBI at e;rw [ea,eb] at e
    split at e
    . rename_i i j h1 h2
      cases h1;cases h2;cases e
      rw [bJ r1,bJ r2]
      exact⟨i,j,rfl,rfl,q⟩
    . cases e) fun env bb e=>by
    unfold fBI at e
    split at e
    . rename_i i j h1 h2
      exact⟨_,_,h1,h2⟩
    . cases e
theorem wU (ha:QE X m1 rs1 a fa) (hb:QE X m2 rs2 b fb):QT X (.Compare a [.Lt] [b] pos) (fBI (fun i j=>decide (i < j)) fa fb):=qK Z3i ha hb (jE _)
theorem Z37 (ha:QE X m1 rs1 a fa) (hb:QE X m2 rs2 b fb):QT X (.Compare a [.LtE] [b] pos) (fBI (fun i j=>decide (i <= j)) fa fb):=qK Z3j ha hb (jE _)
theorem Z1F (ha:QE X m1 rs1 a fa) (hb:QE X m2 rs2 b fb):QT X (.Compare a [.Gt] [b] pos) (fBI (fun i j=>decide (j < i)) fa fb):=qK W9 ha hb (jE _)
theorem D2 (ha:QE X m1 rs1 a fa) (hb:QE X m2 rs2 b fb):QT X (.Compare a [.GtE] [b] pos) (fBI (fun i j=>decide (j <= i)) fa fb):=qK Z3k ha hb (jE _)
noncomputable def sX (neg:Bool) (fa:En->Option D):En->Option Bool:=fun env=>match fa env with
  | some .non=>some (!neg)
  | some _=>some neg
  | none=>none
theorem zC {K:Frag}{H:Hp}{d:D}{v:V}{fp:List Addr}(h:Rep K m H d v fp) (hd:d ≠ .non):v ≠ .non:=by
  cases d with
  | non=>exact absurd rfl hd
  | bl _=>simp only [Rep] at h;rw [h.1];simp
  | int _=>simp only [Rep] at h;rw [h.1];simp
  | str _=>simp only [Rep] at h;rw [h.1];simp
  | tup _=>simp only [Rep] at h;obtain⟨a,vs,e,_⟩:=h;rw [e];simp
  | lst _=>simp only [Rep] at h;obtain⟨a,vs,fp',e,_⟩:=h;rw [e];simp
  | obj _ _ _=>simp only [Rep] at h;obtain⟨a,dx,vs,fp',e,_⟩:=h;rw [e];simp
  | dk _ _=>simp only [Rep] at h;obtain⟨a,vs,fp',e,_⟩:=h;rw [e];simp
  | dt _ _=>simp only [Rep] at h;obtain⟨a,es,ep,vs,fp',e,_⟩:=h;rw [e];simp
  | exc _=>simp only [Rep] at h;obtain⟨a,e,_⟩:=h;rw [e];simp
  | fn _ _ _=>simp only [Rep] at h;rw [h.1];simp
theorem qJ {j pos'} (ha:QE X m1 rs1 a fa):QT X (.Compare a [.IsNot] [.Constant .none j pos'] pos) (sX true fa) :=
  rF Z11 ha (m2:=false) (rs2:=[]) V3 (jE _) (fun env x y K H v u f1 f2 Q bb e ea eb r1 r2 _ q=>by
    cases eb
    refine⟨fU r2,?_⟩
    unfold sX at e;rw [ea] at e
    cases x with
    | non=>cases e;rw [fU r1];exact q
    | _=>cases e;rw [decide_eq_false (zC r1 (by intro z;cases z))];exact q) fun env bb e=>by
    unfold sX at e
    cases h:fa env with
    | none=>rw [h] at e;cases e
    | some x=>exact⟨x,.non,rfl,rfl⟩
theorem jO (ha:QT X a ga):QW X (.BoolOp .And [a] pos) ga:=.mk (Z0Q ha) fun σ H Q q=>q
theorem U6 (ha:QT X a ga):QW X (.BoolOp .Or [a] pos) ga:=.mk (Z2d ha) fun σ H Q q=>q
theorem jD (ha:QT X a ga) (hb:QW X (.BoolOp .And (b :: rest) pos) gb):QW X (.BoolOp .And (a :: b :: rest) pos) (kC ga gb) :=
  .mk (Z2e ha hb) fun σ H Q ⟨env,F,bb,ok,e,q⟩=>by
    unfold kC at e
    split at e
    . rename_i h1
      exact⟨env,F,true,ok,h1,fun H' s=>by refine O8 ?_;exact⟨env,F,bb,ok.same s,e,fun H2 s2=>q H2 (s.trans s2)⟩⟩
    . rename_i h1
      cases e
      exact⟨env,F,false,ok,h1,fun H' s=>by refine O9 ?_;exact q H' s⟩
    . cases e
theorem U7 (ha:QT X a ga) (hb:QW X (.BoolOp .Or (b :: rest) pos) gb):QW X (.BoolOp .Or (a :: b :: rest) pos) (fOr ga gb) :=
  .mk (Z3c ha hb) fun σ H Q ⟨env,F,bb,ok,e,q⟩=>by
    unfold fOr at e
    split at e
    . rename_i h1
      exact⟨env,F,false,ok,h1,fun H' s=>by refine O9 ?_;exact⟨env,F,bb,ok.same s,e,fun H2 s2=>q H2 (s.trans s2)⟩⟩
    . rename_i h1
      cases e
      exact⟨env,F,true,ok,h1,fun H' s=>by refine O8 ?_;exact q H' s⟩
    . cases e
theorem zE (ha:QT X a ga):QT X (.UnaryOp .Not a pos) (iN ga):=.mk (L2.pt_not ha) fun σ H Q ⟨env,F,bb,ok,e,q⟩=>by
  unfold iN at e
  cases h:ga env with
  | none=>rw [h] at e;cases e
  | some b1=>rw [h] at e;cases e;exact⟨env,F,b1,ok,h,fun H' s=>q H' s⟩
theorem V2 {op} (h:QE X m rs a f):QE X m rs (.BoolOp op [a] pos) f:=.mk (Z2m h) fun σ H Q q=>q
theorem Z2b (ha:QE X m1 rs1 a fa) (hb:QE X m2 rs2 (.BoolOp .And (b :: rest) pos) fb):QE X m rs (.BoolOp .And (a :: b :: rest) pos) (lI (kC (fB fa) (fB fb))) :=
  .mk (L2.pe_and ha hb) fun σ H Q ⟨env,F,d,ok,e,q⟩=>by
    unfold lI kC fB at e
    cases h1:fa env with
    | none=>rw [h1] at e;cases e
    | some x =>
      rw [h1] at e
      cases x with
      | bl c =>
        cases c with
        | true =>
          simp only at e
          cases h2:fb env with
          | none=>rw [h2] at e;cases e
          | some y =>
            rw [h2] at e
            cases y with
            | bl c2 =>
              cases e
              refine⟨env,F,_,ok,h1,fun v H1 f1 s1 r1 _=>?_⟩
              rw [eU r1]
              refine⟨true,rfl,?_⟩
              refine O8 ?_
              refine⟨env,F,_,ok.same s1,h2,fun u H2 f2 s2 r2 _=>?_⟩
              rw [eU r2]
              exact q _ _ _ (s1.trans s2) lY .nil
            | _=>cases e
        | false =>
          cases e
          refine⟨env,F,_,ok,h1,fun v H1 f1 s1 r1 _=>?_⟩
          rw [eU r1]
          refine⟨false,rfl,?_⟩
          refine O9 ?_
          exact q _ _ _ s1 lY .nil
      | _=>cases e
theorem Z38 (ha:QE X m1 rs1 a fa) (hb:QE X m2 rs2 (.BoolOp .Or (b :: rest) pos) fb):QE X m rs (.BoolOp .Or (a :: b :: rest) pos) (lI (fOr (fB fa) (fB fb))) :=
  .mk (L2.pe_or ha hb) fun σ H Q ⟨env,F,d,ok,e,q⟩=>by
    unfold lI fOr fB at e
    cases h1:fa env with
    | none=>rw [h1] at e;cases e
    | some x =>
      rw [h1] at e
      cases x with
      | bl c =>
        cases c with
        | false =>
          simp only at e
          cases h2:fb env with
          | none=>rw [h2] at e;cases e
          | some y =>
            rw [h2] at e
            cases y with
            | bl c2 =>
              cases e
              refine⟨env,F,_,ok,h1,fun v H1 f1 s1 r1 _=>?_⟩
              rw [eU r1]
              refine⟨false,rfl,?_⟩
              refine O9 ?_
              refine⟨env,F,_,ok.same s1,h2,fun u H2 f2 s2 r2 _=>?_⟩
              rw [eU r2]
              exact q _ _ _ (s1.trans s2) lY .nil
            | _=>cases e
        | true =>
          cases e
          refine⟨env,F,_,ok,h1,fun v H1 f1 s1 r1 _=>?_⟩
          rw [eU r1]
          refine⟨true,rfl,?_⟩
          refine O8 ?_
          exact q _ _ _ s1 lY .nil
      | _=>cases e
theorem Z28 (ha:QE X m1 rs1 a fa):QE X m rs (.UnaryOp .Not a pos) (lI (iN (fB fa))) :=
  .mk (L2.pe_not ha) fun σ H Q ⟨env,F,d,ok,e,q⟩=>by
    unfold lI iN fB at e
    cases h1:fa env with
    | none=>rw [h1] at e;cases e
    | some x =>
      rw [h1] at e
      cases x with
      | bl c =>
        cases e
        refine⟨env,F,_,ok,h1,fun v H1 f1 s1 r1 _=>?_⟩
        rw [eU r1]
        exact⟨c,rfl,q _ _ _ s1 lY .nil⟩
      | _=>cases e
theorem aK:QA X m rs [] aL:=fun pos pins s σ H Q I ⟨env,F,ds,ok,e,q⟩=>rK pos pins s σ H Q I (by cases e;exact q [] H [] (Same.refl H) (by simp only [Reps];exact⟨trivial,trivial⟩) .nil)
theorem aD {ga:En->Option (List D)}(ha:QE X m rs e f) (hr:QA X m rs es ga) (hs:starEach (e :: es) X.env=(false,eval e X.env) :: starEach es X.env:=by rfl):QA X m rs (e :: es) (aC f ga) :=
  fun pos pins s σ H Q I ⟨env,F,ds,ok,e,q⟩=>jS ha hr hs pos pins s σ H Q I (by
    unfold aC at e
    split at e
    . rename_i d ds' h1 h2
      cases e
      refine⟨env,F,d,ok,h1,fun v H1 f1 s1 r1 c1=>⟨env,F,ds',ok.same s1,h2,fun vs H2 f2 s2 r2 c2=>q _ H2 (f1 ++ f2) (s1.trans s2) ?_ ?_⟩⟩
      . simp only [Reps]
        exact⟨v,vs,f1,f2,rfl,rfl,r1.same s2,r2⟩
      . refine⟨fun b hb=>(List.mem_append.mp hb).elim (c1.1 b) ((c2.back s1).1 b),fun hm=>⟨List.nodup_append.mpr ⟨(c1.2 hm).1,(c2.2 hm).1,fun x hx y hy z=>?_⟩,fun b hb=>(List.mem_append.mp hb).elim ((c1.2 hm).2 b) (((c2.back s1).2 hm).2 b)⟩⟩
        obtain⟨o,ho⟩:=Rep.dom _ _ _ r1 x hx
        rw [z,(c2.2 hm).2 y hy] at ho
        cases ho
    . cases e)
end
theorem mM {n:Nat}(h:n <= 1000):n <= sizeLine:=Nat.le_of_lt (kI h)
section
variable {X:Cx}{m m' m1 m2:Bool}{rs rs' rs1 rs2:List Nat}{e a b c:Expr}{es rest:List Expr}{f fa fb fc:En->Option D}{g ga gb:En->Option Bool}{fs:En->Option (List D)}{pos p:Pos}
theorem oQ {K:Frag}{H:Hp}{q:Addr}{vs:List V}{ds:List D}{fp:List Addr}(hq:H q=none) (h:Reps K m H ds vs fp):Rep K m (upd H q (.tup vs)) (.tup ds) (.ref q) fp:=by
  have sm:Same H (upd H q (.tup vs)):=fun b o e=>by rw [aM (aR e hq)];exact e
  simp only [Rep]
  exact⟨q,vs,rfl,SqT.of aV,h.same sm⟩
theorem lX {K:Frag}{H:Hp}{q:Addr}{vs:List V}{ds:List D}{fp:List Addr}(hq:H q=none) (h:Reps K m H ds vs fp):Rep K m (upd H q (.lst vs)) (.lst ds) (.ref q) (q :: fp):=by
  have sm:Same H (upd H q (.lst vs)):=fun b o e=>by rw [aM (aR e hq)];exact e
  simp only [Rep]
  exact⟨q,vs,fp,rfl,h.same sm,.inl ⟨rfl,aV⟩⟩
theorem cC {H:Hp}{q:Addr}{o:HO}(hq:H q=none):Same H (upd H q o):=fun b u e=>by rw [aM (aR e hq)];exact e
theorem nZ {F:Nat->List Addr}{H H':Hp}{K:Frag}{ds:List D}{vs:List V}{fp:List Addr}{q:Addr}(s:Same H H') (hq:H' q=none) (r:Reps K m H' ds vs fp) (c:Cond F H m rs fp):Cond F H m rs (q :: fp) :=
  ⟨fun b hb => (List.mem_cons.mp hb).elim (fun z => .inl (by rw [z]; exact s.free hq)) (c.1 b),
   fun hm=>⟨List.nodup_cons.mpr ⟨fun z=>(by obtain⟨o,ho⟩:=Reps.dom _ _ _ r q z;rw [hq] at ho;cases ho),(c.2 hm).1⟩,fun b hb=>(List.mem_cons.mp hb).elim (fun z=>by rw [z];exact s.free hq) ((c.2 hm).2 b)⟩⟩
theorem jZ {x1} (h:QA X m rs es fs):QE X m rs (.Tuple es x1 pos) (iM fs) :=
  .mk (L2.pe_tup h) fun σ H Q ⟨env,F,d,ok,e,q⟩=>by
    unfold iM at e
    split at e
    . rename_i ds h1
      split at e
      . rename_i hl
        cases e
        refine⟨env,F,ds,ok,h1,fun vs H' fp s r c=>⟨mM (by rw [r.length];exact hl),fun p hp=>q _ _ fp (s.trans (cC hp)) (oQ hp r) c⟩⟩
      . cases e
    . cases e
theorem fG (h:QA X m rs es fs):QE X m rs (.List es pos) (jI fs) :=
  .mk (L2.pe_lst h) fun σ H Q ⟨env,F,d,ok,e,q⟩=>by
    unfold jI at e
    split at e
    . rename_i ds h1
      split at e
      . rename_i hl
        cases e
        refine⟨env,F,ds,ok,h1,fun vs H' fp s r c=>⟨mM (by rw [r.length];exact hl),fun p hp=>q _ _ (p :: fp) (s.trans (cC hp)) (lX hp r) (nZ s hp r c)⟩⟩
      . cases e
    . cases e
noncomputable def fIx (fa fb:En->Option D):En->Option D:=fun env=>match fa env,fb env with
  | some (.lst ds),some (.int i)=>atI ds i
  | some (.tup ds),some (.int i)=>atI ds i
  | some (.str z),some (.int i)=>if z.length <= 1000 then (atI z.cps.toList i).map fun c=>.str ⟨#[c]⟩ else none
  | _,_=>none
theorem J8 {K:Frag}{H:Hp}{ds:List D}{vs:List V}{fp:List Addr}{i:Int}{d:D}(r:Reps K m H ds vs fp) (h:atI ds i=some d):∃ v f,atI vs i=some v /\ Rep K m H d v f /\ (∀ b ∈ f,b ∈ fp) /\ (fp.Nodup->f.Nodup):=by
  unfold atI at h ⊢
  rw [r.length]
  cases hj:ixN ds.length i with
  | none=>rw [hj] at h;cases h
  | some j =>
    rw [hj] at h
    exact r.get h
theorem bN (ha:QE X m1 rs a fa) (hb:QE X m2 rs2 b fb) (hs:J9 b:=by exact fun _ _=>rfl):QE X false rs (.Subscript a b pos) (fIx fa fb) :=
  .mk (Z3g Z2z ha hb hs) fun σ H Q ⟨env,F,d,ok,e,q⟩=>by
    unfold fIx at e
    split at e
    . rename_i ds i h1 h2
      refine two ok h1 h2 fun v u H' f1 f2 s r1 r2 c1 c2=>?_
      obtain⟨p,vs,fp',rfl,hsq,hr,hsub⟩:=bP r1
      obtain⟨w,f,e1,e2,e3,_⟩:=J8 hr e
      rw [bJ r2]
      exact .inl ⟨p,vs,i,w,rfl,rfl,hsq,e1,q w H' f s (Rep.weak _ _ _ e2) ⟨fun b hb=>c1.1 b (hsub b (e3 b hb)),fun z=>(by cases z)⟩⟩
    . rename_i ds i h1 h2
      refine two ok h1 h2 fun v u H' f1 f2 s r1 r2 c1 c2=>?_
      simp only [Rep] at r1
      obtain⟨p,vs,rfl,hsq,hr⟩:=r1
      obtain⟨w,f,e1,e2,e3,_⟩:=J8 hr e
      rw [bJ r2]
      exact .inr (.inl ⟨p,vs,i,w,rfl,rfl,hsq,e1,q w H' f s (Rep.weak _ _ _ e2) ⟨fun b hb=>c1.1 b (e3 b hb),fun z=>(by cases z)⟩⟩)
    . rename_i z i h1 h2
      split at e
      . rename_i hl
        refine two ok h1 h2 fun v u H' f1 f2 s r1 r2 c1 c2=>?_
        cases hc:atI z.cps.toList i with
        | none=>rw [hc] at e;cases e
        | some ch =>
          rw [hc] at e
          cases e
          rw [eY r1,bJ r2]
          exact .inr (.inr ⟨z,i,ch,rfl,rfl,mM hl,hc,q _ H' [] s X8 .nil⟩)
      . cases e
    . cases e
noncomputable def QO (X:Cx) (e:Option Expr) (f:En->Option (Option Int)):Prop:=PO X e (fun σ H Q=>∃ env F o,EnvOk X.K H σ env F /\ f env=some o /\ ∀ H',Same H H'->Q o H')
noncomputable def lR:En->Option (Option Int):=fun _=>some none
noncomputable def fP (f:En->Option D):En->Option (Option Int):=fun env=>match f env with
  | some (.int i)=>some (some i)
  | _=>none
theorem jQ:QO X none lR:=fun pins s σ H Q I ⟨env,F,o,ok,e,q⟩=>Z0X pins s σ H Q I (by cases e;exact q H (Same.refl H))
theorem jP (h:QE X m rs e f):QO X (some e) (fP f):=fun pins s σ H Q I ⟨env,F,o,ok,e,q⟩=>Z0W h pins s σ H Q I (by
  unfold fP at e
  split at e
  . rename_i i h1
    cases e
    refine⟨env,F,_,ok,h1,fun v H' fp s r _=>?_⟩
    rw [bJ r]
    exact⟨i,rfl,q H' s⟩
  . cases e)
noncomputable def cutD (xs:List D) (lo hi:Option Int):List D:=(xs.drop (HT.sIx xs.length 0 lo)).take (HT.sIx xs.length xs.length hi - HT.sIx xs.length 0 lo)
theorem Reps.drop {K:Frag}{H:Hp}:∀ (n:Nat) {ds:List D}{vs:List V}{fp:List Addr},Reps K m H ds vs fp->∃ f,Reps K m H (ds.drop n) (vs.drop n) f /\ (∀ b ∈ f,b ∈ fp)
  | 0,ds,vs,fp,h=>⟨fp,h,fun _ h=>h⟩
  | n + 1,[],vs,fp,h=>by simp only [Reps] at h;obtain⟨rfl,rfl⟩:=h;exact⟨[],by simp only [List.drop_nil,Reps];exact⟨trivial,trivial⟩,fun _ h=>h⟩
  | n + 1,d :: ds,vs,fp,h=>by
    simp only [Reps] at h
    obtain⟨v,r,f1,f2,rfl,rfl,h1,h2⟩:=h
    obtain⟨f,e1,e2⟩:=Reps.drop n h2
    exact⟨f,e1,fun b hb=>List.mem_append_right _ (e2 b hb)⟩
theorem Reps.take {K:Frag}{H:Hp}:∀ (n:Nat) {ds:List D}{vs:List V}{fp:List Addr},Reps K m H ds vs fp->∃ f,Reps K m H (ds.take n) (vs.take n) f /\ (∀ b ∈ f,b ∈ fp)
  | 0,ds,vs,fp,h=>⟨[],by simp only [List.take_zero,Reps];exact⟨trivial,trivial⟩,fun b hb=>(by cases hb)⟩
  | n + 1,[],vs,fp,h=>by simp only [Reps] at h;obtain⟨rfl,rfl⟩:=h;exact⟨[],by simp only [List.take_nil,Reps];exact⟨trivial,trivial⟩,fun _ h=>h⟩
  | n + 1,d :: ds,vs,fp,h=>by
    simp only [Reps] at h
    obtain⟨v,r,f1,f2,rfl,rfl,h1,h2⟩:=h
    obtain⟨f,e1,e2⟩:=Reps.take n h2
    refine⟨f1 ++ f,by simp only [List.take_succ_cons,Reps];exact⟨v,_,f1,f,rfl,rfl,h1,e1⟩,fun b hb=>?_⟩
    rcases List.mem_append.mp hb with z | z
    . exact List.mem_append_left _ z
    . exact List.mem_append_right _ (e2 b z)
theorem Reps.cut {K:Frag}{H:Hp}{ds:List D}{vs:List V}{fp:List Addr}(h:Reps K m H ds vs fp) (lo hi:Option Int):∃ f,Reps K m H (cutD ds lo hi) (yA vs lo hi) f /\ (∀ b ∈ f,b ∈ fp):=by
  unfold cutD yA
  rw [h.length]
  obtain⟨f,e1,e2⟩:=Reps.drop (HT.sIx ds.length 0 lo) h
  obtain⟨f',e3,e4⟩:=Reps.take (HT.sIx ds.length ds.length hi - HT.sIx ds.length 0 lo) e1
  exact⟨f',e3,fun b hb=>e2 b (e4 b hb)⟩
theorem jA:∀ {ds:List D},(∀ d ∈ ds,flat d=true)->flats ds=true
  | [],_=>rfl
  | d :: ds,h=>by simp only [flats,Bool.and_eq_true];exact⟨h d List.mem_cons_self,jA fun x hx=>h x (List.mem_cons_of_mem _ hx)⟩
noncomputable def fSl (fa:En->Option D) (fl fh:En->Option (Option Int)):En->Option D:=fun env=>match fa env,fl env,fh env with
  | some (.lst ds),some lo,some hi=>if flats ds=true then some (.lst (cutD ds lo hi)) else none
  | some (.tup ds),some lo,some hi=>if flats ds=true /\ ¬ (HT.sIx ds.length 0 lo=0 /\ HT.sIx ds.length ds.length hi=ds.length) then some (.tup (cutD ds lo hi)) else none
  | _,_,_=>none
theorem iG {lo hi:Option Expr}{fl fh:En->Option (Option Int)}{p2:Pos}(ha:QE X m1 rs1 a fa) (hl:QO X lo fl) (hu:QO X hi fh):QE X m rs (.Subscript a (.Slice lo hi none p2) pos) (fSl fa fl fh) :=
  .mk (L2.pe_slice (SlR.or Z0z Z1Z) ha hl hu) fun σ H Q ⟨env,F,d,ok,e,q⟩=>by
    unfold fSl at e
    split at e
    . rename_i ds l h h1 h2 h3
      split at e
      . rename_i hf
        cases e
        refine⟨env,F,_,ok,h1,fun v H1 f1 s1 r1 c1=>⟨env,F,l,ok.same s1,h2,fun H2 s2=>⟨env,F,h,ok.same (s1.trans s2),h3,fun H3 s3=>.inl ?_⟩⟩⟩
        obtain⟨p,vs,fp',rfl,hsq,hr,hsub⟩:=bP (r1.same (s2.trans s3))
        refine⟨p,vs,rfl,hsq,fun p' hp=>?_⟩
        obtain⟨g1,g2⟩:=Reps.flat _ _ _ hf hr
        obtain⟨f',e3,e4⟩:=Reps.cut (g2 m) l h
        obtain rfl:f'=[]:=List.eq_nil_iff_forall_not_mem.mpr fun b hb=>(by cases e4 b hb)
        exact q _ _ [p'] (((s1.trans s2).trans s3).trans (cC hp)) (lX hp e3) (nZ ((s1.trans s2).trans s3) hp e3 .nil)
      . cases e
    . rename_i ds l h h1 h2 h3
      split at e
      . rename_i hf
        cases e
        refine⟨env,F,_,ok,h1,fun v H1 f1 s1 r1 c1=>⟨env,F,l,ok.same s1,h2,fun H2 s2=>⟨env,F,h,ok.same (s1.trans s2),h3,fun H3 s3=>.inr ?_⟩⟩⟩
        have r1':=r1.same (s2.trans s3)
        simp only [Rep] at r1'
        obtain⟨p,vs,rfl,hsq,hr⟩:=r1'
        refine⟨p,vs,rfl,hsq,by rw [hr.length];exact hf.2,fun p' hp=>?_⟩
        obtain⟨g1,g2⟩:=Reps.flat _ _ _ hf.1 hr
        obtain⟨f',e3,e4⟩:=Reps.cut (g2 m) l h
        obtain rfl:f'=[]:=List.eq_nil_iff_forall_not_mem.mpr fun b hb=>(by cases e4 b hb)
        exact q _ _ [] (((s1.trans s2).trans s3).trans (cC hp)) (oQ hp e3) .nil
      . cases e
    . cases e
theorem kN {x:Str}{id:String}{r:List V->Hp->VK->Prop}{F':List D->Option D}(hc:CallR X (.builtin id) r) (hg:Gl X x) (hm:X.mg x=none) (hv:bootBuiltins x=some (.builtin id)) (ha:QA X m1 rs1 (e :: es) fs)
    (hr:∀ ds d vs H fp Q,F' ds=some d->Reps X.K m1 H ds vs fp->(∀ v H' f',Same H H'->Rep X.K m H' d v f'->(∀ b ∈ f',H b=none)->f'.Nodup->Q v H')->r vs H Q)
    (hn:x ≠ "__name__":=by decide) (hdb:(x == ("__debug__" : Str))=false:=by decide) (he:starEach (e :: es) X.env=(false,eval e X.env) :: starEach es X.env:=by rfl) (hpl:(backTo pos (starEach es X.env)).any (·.1)=false:=by rfl) :
    QE X m rs (.Call (.Name x p) (e :: es) [] pos) (fun env=>(fs env).bind F') :=
  .mk (L2.pe_callB hc hg hm hv ha hn hdb he hpl) fun σ H Q ⟨env,F,d,ok,e,q⟩=>by
    cases h1:fs env with
    | none=>simp only [h1] at e;cases e
    | some ds =>
      simp only [h1] at e
      exact⟨env,F,ds,ok,h1,fun vs H' fp s r c=>hr ds d vs H' fp Q e r fun v H2 f' s2 r2 h2 nd=>q v H2 f' (s.trans s2) r2 ⟨fun b hb=>.inl (s.free (h2 b hb)),fun _=>⟨nd,fun b hb=>s.free (h2 b hb)⟩⟩⟩
theorem oM {x:Str}{T:String}{r:List V->Hp->VK->Prop}{F':List D->Option D}(hc:CallR X (.type T) r) (hg:Gl X x) (hm:X.mg x=none) (hv:bootBuiltins x=some (.type T)) (ha:QA X m1 rs1 (e :: es) fs)
    (hr:∀ ds d vs H fp Q,F' ds=some d->Reps X.K m1 H ds vs fp->(∀ v H' f',Same H H'->Rep X.K m H' d v f'->(∀ b ∈ f',H b=none)->f'.Nodup->Q v H')->r vs H Q)
    (hn:x ≠ "__name__":=by decide) (hdb:(x == ("__debug__" : Str))=false:=by decide) (he:starEach (e :: es) X.env=(false,eval e X.env) :: starEach es X.env:=by rfl) (hpl:(backTo pos (starEach es X.env)).any (·.1)=false:=by rfl) :
    QE X m rs (.Call (.Name x p) (e :: es) [] pos) (fun env=>(fs env).bind F') :=
  .mk (L2.pe_callTy hc hg hm hv ha hn hdb he hpl) fun σ H Q ⟨env,F,d,ok,e,q⟩=>by
    cases h1:fs env with
    | none=>simp only [h1] at e;cases e
    | some ds =>
      simp only [h1] at e
      exact⟨env,F,ds,ok,h1,fun vs H' fp s r c=>hr ds d vs H' fp Q e r fun v H2 f' s2 r2 h2 nd=>q v H2 f' (s.trans s2) r2 ⟨fun b hb=>.inl (s.free (h2 b hb)),fun _=>⟨nd,fun b hb=>s.free (h2 b hb)⟩⟩⟩
theorem iP {K:Frag}{H:Hp}{d:D}{vs:List V}{fp:List Addr}(h:Reps K m H [d] vs fp):∃ v,vs=[v] /\ Rep K m H d v fp:=by
  simp only [Reps] at h
  obtain⟨v,r,f1,f2,rfl,rfl,h1,rfl,rfl⟩:=h
  exact⟨v,rfl,by simpa using h1⟩
theorem Z1C {K:Frag}{H:Hp}{d d':D}{vs:List V}{fp:List Addr}(h:Reps K m H [d,d'] vs fp):∃ v v' f f',vs=[v,v'] /\ Rep K m H d v f /\ Rep K m H d' v' f' /\ fp=f ++ f':=by
  simp only [Reps] at h
  obtain⟨v,r,f1,f2,rfl,rfl,h1,v',r',f3,f4,rfl,rfl,h2,rfl,rfl⟩:=h
  exact⟨v,v',f1,f3,rfl,h1,h2,by simp⟩
noncomputable def fN:List D->Option D
  | [.lst ds]=>some (.int ds.length)
  | [.tup ds]=>some (.int ds.length)
  | [.str z]=>if z.length <= 1000 then some (.int z.length) else none
  | _=>none
theorem iJ {p:Pos}(hg:Gl X "len") (hm:X.mg "len" = none) (ha:QE X m1 rs1 a fa) (he:starEach [a] X.env=(false,eval a X.env) :: starEach [] X.env:=by rfl) (hpl:(backTo pos (starEach [] X.env)).any (·.1)=false:=by rfl) :
    QE X m rs (.Call (.Name "len" p) [a] [] pos) (fun env=>(aC fa aL env).bind fN) :=
  kN (call_len_seq.or vT) hg hm PySem.boot_len (aD ha aK he) (fun ds d vs H fp Q e r q=>by
    unfold fN at e
    split at e
    . cases e
      obtain⟨v,rfl,r1⟩:=iP r
      obtain⟨p,ws,fp',rfl,hsq,hr,hsub⟩:=bP r1
      exact .inl ⟨p,ws,rfl,.inl hsq,by rw [hr.length];exact q _ _ [] (Same.refl H) fZ (fun b hb=>(by cases hb)) List.nodup_nil⟩
    . cases e
      obtain⟨v,rfl,r1⟩:=iP r
      simp only [Rep] at r1
      obtain⟨p,ws,rfl,hsq,hr⟩:=r1
      exact .inl ⟨p,ws,rfl,.inr hsq,by rw [hr.length];exact q _ _ [] (Same.refl H) fZ (fun b hb=>(by cases hb)) List.nodup_nil⟩
    . split at e
      . rename_i hl
        cases e
        obtain⟨v,rfl,r1⟩:=iP r
        rw [eY r1]
        exact .inr ⟨_,rfl,mM hl,q _ _ [] (Same.refl H) fZ (fun b hb=>(by cases hb)) List.nodup_nil⟩
      . cases e
    . cases e) (he:=he) (hpl:=hpl)
noncomputable def gZ:List D->Option D
  | [.lst ds]=>if flats ds=true then some (.lst ds) else none
  | [.tup ds]=>if flats ds=true then some (.lst ds) else none
  | _=>none
theorem boot_list:bootBuiltins "list" = some (.type "list"):=by decide +kernel
theorem B9:bootBuiltins "tuple" = some (.type "tuple"):=by decide +kernel
theorem boot_int:bootBuiltins "int" = some (.type "int"):=by decide +kernel
theorem Z0f:bootBuiltins "min" = some (.builtin "min"):=by decide +kernel
theorem nQ {p:Pos}(hg:Gl X "list") (hm:X.mg "list" = none) (ha:QE X m1 rs1 a fa) (he:starEach [a] X.env=(false,eval a X.env) :: starEach [] X.env:=by rfl) (hpl:(backTo pos (starEach [] X.env)).any (·.1)=false:=by rfl) :
    QE X m rs (.Call (.Name "list" p) [a] [] pos) (fun env=>(aC fa aL env).bind gZ) :=
  oM vS hg hm boot_list (aD ha aK he) (fun ds d vs H fp Q e r q=>by
    have fin:∀ {xs:List D}{ws:List V}{f:List Addr}{l:Addr},flats xs=true->Reps X.K m1 H xs ws f->H l=none->Q (.ref l) (upd H l (.lst ws))->True:=fun _ _ _ _=>trivial
    unfold gZ at e
    split at e
    . split at e
      . rename_i hf
        cases e
        obtain⟨v,rfl,r1⟩:=iP r
        obtain⟨p,ws,fp',rfl,hsq,hr,hsub⟩:=bP r1
        refine⟨p,ws,rfl,.inl hsq,fun l hl=>?_⟩
        obtain⟨g1,g2⟩:=Reps.flat _ _ _ hf hr
        exact q _ _ [l] (cC hl) (lX hl (g2 m)) (fun b hb=>by simp at hb;rw [hb];exact hl) (by simp)
      . cases e
    . split at e
      . rename_i hf
        cases e
        obtain⟨v,rfl,r1⟩:=iP r
        simp only [Rep] at r1
        obtain⟨p,ws,rfl,hsq,hr⟩:=r1
        refine⟨p,ws,rfl,.inr hsq,fun l hl=>?_⟩
        obtain⟨g1,g2⟩:=Reps.flat _ _ _ hf hr
        exact q _ _ [l] (cC hl) (lX hl (g2 m)) (fun b hb=>by simp at hb;rw [hb];exact hl) (by simp)
      . cases e
    . cases e) (he:=he) (hpl:=hpl)
noncomputable def vX:List D->Option D
  | [.lst ds]=>if flats ds=true then some (.tup ds) else none
  | [.tup ds]=>if flats ds=true then some (.tup ds) else none
  | _=>none
theorem V0 {p:Pos}(hg:Gl X "tuple") (hm:X.mg "tuple" = none) (ha:QE X m1 rs1 a fa) (he:starEach [a] X.env=(false,eval a X.env) :: starEach [] X.env:=by rfl) (hpl:(backTo pos (starEach [] X.env)).any (·.1)=false:=by rfl) :
    QE X m rs (.Call (.Name "tuple" p) [a] [] pos) (fun env=>(aC fa aL env).bind vX) :=
  oM sY hg hm B9 (aD ha aK he) (fun ds d vs H fp Q e r q=>by
    unfold vX at e
    split at e
    . split at e
      . rename_i hf
        cases e
        obtain⟨v,rfl,r1⟩:=iP r
        obtain⟨p,ws,fp',rfl,hsq,hr,hsub⟩:=bP r1
        refine⟨p,ws,rfl,.inl ⟨hsq,fun l hl=>?_⟩⟩
        obtain⟨g1,g2⟩:=Reps.flat _ _ _ hf hr
        exact q _ _ [] (cC hl) (oQ hl (g2 m)) (fun b hb=>(by cases hb)) List.nodup_nil
      . cases e
    . split at e
      . rename_i hf
        cases e
        obtain⟨v,rfl,r1⟩:=iP r
        have r2:=r1
        simp only [Rep] at r1
        obtain⟨p,ws,rfl,hsq,hr⟩:=r1
        obtain⟨g1,g2⟩:=Rep.flat _ _ _ (by simpa only [PD.flat] using hf) r2
        exact⟨p,ws,rfl,.inr ⟨hsq,q _ _ [] (Same.refl H) (g2 m) (fun b hb=>(by cases hb)) List.nodup_nil⟩⟩
      . cases e
    . cases e) (he:=he) (hpl:=hpl)
noncomputable def Z1v:List D->Option D
  | [.int i,.int j]=>some (.int (if j < i then j else i))
  | _=>none
theorem Z29 {p:Pos}(hcm:X.calm=true) (hg:Gl X "min") (hm:X.mg "min" = none) (ha:QA X m1 rs1 [a,b] fs) (he:starEach [a,b] X.env=(false,eval a X.env) :: starEach [b] X.env:=by rfl) (hpl:(backTo pos (starEach [b] X.env)).any (·.1)=false:=by rfl) :
    QE X m rs (.Call (.Name "min" p) [a,b] [] pos) (fun env=>(fs env).bind Z1v) :=
  kN (Q4 hcm) hg hm Z0f ha (fun ds d vs H fp Q e r q=>by
    unfold Z1v at e
    split at e
    . rename_i i j
      cases e
      obtain⟨v,v',f,f',rfl,r1,r2,rfl⟩:=Z1C r
      rw [bJ r1,bJ r2]
      exact⟨i,j,rfl,q _ _ [] (Same.refl H) fZ (fun b hb=>(by cases hb)) List.nodup_nil⟩
    . cases e) (he:=he) (hpl:=hpl)
noncomputable def C1:List D->Option D
  | [.int i]=>some (.int i)
  | [.bl k]=>some (.int (if k then 1 else 0))
  | _=>none
theorem Z0M {p:Pos}(hg:Gl X "int") (hm:X.mg "int" = none) (ha:QE X m1 rs1 a fa) (he:starEach [a] X.env=(false,eval a X.env) :: starEach [] X.env:=by rfl) (hpl:(backTo pos (starEach [] X.env)).any (·.1)=false:=by rfl) :
    QE X m rs (.Call (.Name "int" p) [a] [] pos) (fun env=>(aC fa aL env).bind C1) :=
  oM Q5 hg hm boot_int (aD ha aK he) (fun ds d vs H fp Q e r q=>by
    unfold C1 at e
    split at e
    . cases e
      obtain⟨v,rfl,r1⟩:=iP r
      rw [bJ r1]
      exact .inl ⟨_,rfl,q _ _ [] (Same.refl H) fZ (fun b hb=>(by cases hb)) List.nodup_nil⟩
    . cases e
      obtain⟨v,rfl,r1⟩:=iP r
      rw [eU r1]
      exact .inr ⟨_,rfl,q _ _ [] (Same.refl H) fZ (fun b hb=>(by cases hb)) List.nodup_nil⟩
    . cases e) (he:=he) (hpl:=hpl)
end
section
variable {X:Cx}{m m' m1 m2:Bool}{rs rs' rs1 rs2:List Nat}{e a b c:Expr}{es rest:List Expr}{f fa fb fc:En->Option D}{g ga gb:En->Option Bool}{fs:En->Option (List D)}{pos p:Pos}
noncomputable def spD (K:Frag) (n:Nat) (f:List D->Option D):Sp:=fun vs H Q _=>∃ ds d fp,ds.length=n /\ Reps K false H ds vs fp /\ f ds=some d /\ ∀ v H' fp',Same H H'->Rep K true H' d v fp'->(∀ b ∈ fp',H b=none)->fp'.Nodup->Q v H'
theorem uQ {K:Frag}{n:Nat}{f:List D->Option D}{vs:List V}{H:Hp}{Q:VK}{E:XK}(h:spD K n f vs H Q E):vs.length=n:=by
  obtain⟨ds,d,fp,h1,h2,_⟩:=h
  rw [h2.length,h1]
theorem Z0N {k:Nat}{fA:Addr}{fd:FuncData}{ps:List Str}{n:Nat}{F':List D->Option D}{dvs:List V}{dds:List D}{ds:List Value}{x:Str}(G:FnOk X.prog X.w X.K X.mg X.base CX0 k fA fd ps (spD X.K n F')) (hr:Room k X.A) (hg:Gl X x) (hm:X.mg x=some (.ref fA)) (hk:keepIn X.K (.ref fA)=true)
    (hb:Binds X.K fd ps ds) (hd:Vals dvs ds) (hdd:∀ H,Reps X.K false H dds dvs []) (ha:QA X m1 rs1 (e :: es) fs) (hn:∀ env xs,fs env=some xs->xs.length + dds.length=n)
    (hdb:(x == ("__debug__" : Str))=false:=by decide) (he:starEach (e :: es) X.env=(false,eval e X.env) :: starEach es X.env:=by rfl) (hpl:(backTo pos (starEach es X.env)).any (·.1)=false:=by rfl) :
    QE X true [] (.Call (.Name x p) (e :: es) [] pos) (fun env=>(fs env).bind fun xs=>F' (xs ++ dds)) :=
  .mk (L2.pe_call G hr hg hm hk hb hd W5 ha hdb he hpl) fun σ H Q ⟨env,F,d,ok,e,q⟩=>by
    cases h1:fs env with
    | none=>simp only [h1] at e;cases e
    | some xs =>
      simp only [h1] at e
      refine⟨env,F,xs,ok,h1,fun vs H' fp s r c=>⟨xs ++ dds,d,fp ++ [],by rw [List.length_append];exact hn env xs h1,(Reps.weak _ _ _ r).append (hdd H'),e,fun v H2 fp' s2 r2 h2 nd=>q v H2 fp' (s.trans s2) r2 ⟨fun b hb=>.inl (s.free (h2 b hb)),fun _=>⟨nd,fun b hb=>s.free (h2 b hb)⟩⟩⟩⟩
theorem qP {K:Frag}{H:Hp}{nm:Str}:∀ {ns:List Str}{ds:List D}{vs:List V}{fp:List Addr}{d:D},Reps K m H ds vs fp->(ns.zip ds).lookup nm=some d->∃ v f,(ns.zip vs).lookup nm=some v /\ Rep K m H d v f /\ ∀ b ∈ f,b ∈ fp
  | [],ds,vs,fp,d,r,e=>by cases e
  | n :: ns,[],vs,fp,d,r,e=>by cases e
  | n :: ns,d' :: ds,vs,fp,d,r,e=>by
    simp only [Reps] at r
    obtain⟨v,vr,f1,f2,rfl,rfl,h1,h2⟩:=r
    simp only [List.zip_cons_cons,List.lookup_cons] at e ⊢
    cases hq:nm == n with
    | true =>
      rw [hq] at e
      cases e
      exact⟨v,f1,rfl,h1,fun b hb=>List.mem_append_left _ hb⟩
    | false =>
      rw [hq] at e
      obtain⟨w,f,a1,a2,a3⟩:=qP h2 e
      exact⟨w,f,a1,a2,fun b hb=>List.mem_append_right _ (a3 b hb)⟩
noncomputable def iO (C:Addr) (nm:Str) (fa:En->Option D):En->Option D:=fun env=>match fa env with
  | some (.obj C' ns ds)=>if C'=C then (ns.zip ds).lookup nm else none
  | _=>none
theorem fH {C:Addr}{nm:Str}(hc:Cls X.K C) (hn:NoAttr X.K C nm) (ha:QE X m1 rs a fa) (hb:attributeBase a nm X.env (eval a X.env)=eval a X.env:=by rfl):QE X false rs (.Attribute a nm pos) (iO C nm fa) :=
  .mk (Z2p ha hb) fun σ H Q ⟨env,F,d,ok,e,q⟩=>by
    unfold iO at e
    split at e
    . rename_i C' ns ds h1
      split at e
      . rename_i hC
        subst hC
        refine⟨env,F,_,ok,h1,fun v H' fp s r c=>?_⟩
        simp only [Rep] at r
        obtain⟨a',dx,vs,fp',rfl,rfl,h2,h3,h4⟩:=r
        obtain⟨w,f,a1,a2,a3⟩:=qP h4 e
        exact⟨a',C',dx,_,w,rfl,h2,hc,hn,a1,q w H' f s (Rep.weak _ _ _ a2) ⟨fun b hb=>c.1 b (List.mem_cons_of_mem _ (a3 b hb)),fun z=>(by cases z)⟩⟩
      . cases e
    . cases e
noncomputable def sM (K:Frag) (J:It) (H0:Hp) (ds:List D) (fp:List Addr):Prop:=∀ H,Kp fp H0 H->∀ i,
  (∀ d,ds[i]? = some d->J.go i H /\ ∀ x H',J.yld i H x H'->Same H H' /\ ∃ f,Rep K false H' d x f /\ ∀ b ∈ f,b ∈ fp) /\ (ds.length <= i->J.stop i H)
noncomputable def tDI (K:Frag) (rs:List Nat) (f:En->Option (List D)):TI:=fun σ H R=>∃ env F ds,EnvOk K H σ env F /\ f env=some ds /\ ∀ J H' fp,Same H H'->sM K J H' ds fp->(∀ b ∈ fp,∃ o,H' b=some o)->Cond F H false rs fp->R J H'
noncomputable def QI (X:Cx) (tg:Expr) (rs:List Nat) (iter:Expr) (f:En->Option (List D)):Prop:=PI X tg iter (tDI X.K rs f)
theorem QI.mk {tg iter:Expr}{wi:TI}{f:En->Option (List D)}(h:PI X tg iter wi) (hi:∀ σ H R,tDI X.K rs f σ H R->wi σ H R):QI X tg rs iter f:=fun pins s σ H R I q=>h pins s σ H R I (hi σ H R q)
theorem PI.or {tg iter:Expr}{w1 w2:TI}(h1:PI X tg iter w1) (h2:PI X tg iter w2):PI X tg iter (fun σ H R=>w1 σ H R \/ w2 σ H R):=fun pins s σ H R I q=>q.elim (h1 pins s σ H R I) (h2 pins s σ H R I)
theorem A4 {K:Frag}{H0:Hp}{ds:List D}{a:Addr}{fp:List Addr}(r:Rep K false H0 (.lst ds) (.ref a) fp):sM K (Itl K a) H0 ds fp:=fun H k i=>by
  have r':=Rep.keep _ _ _ k r
  obtain⟨p,vs,fp',e,hsq,hr,hsub⟩:=bP r'
  cases e
  refine⟨fun d hd=>?_,fun hl=>⟨vs,hsq,by rw [hr.length];exact hl⟩⟩
  obtain⟨v,f,h1,h2,h3,_⟩:=hr.get hd
  refine⟨⟨vs,v,hsq,h1⟩,fun x H' y=>?_⟩
  obtain⟨rfl,y⟩:=y
  have:=y vs hsq
  rw [h1] at this
  cases this
  exact⟨Same.refl _,f,h2,fun b hb=>hsub b (h3 b hb)⟩
theorem P6 {K:Frag}{H0:Hp}{ds:List D}{a:Addr}{fp:List Addr}(r:Rep K false H0 (.tup ds) (.ref a) fp):sM K (Itt K a) H0 ds fp:=fun H k i=>by
  have r':=Rep.keep _ _ _ k r
  simp only [Rep] at r'
  obtain⟨p,vs,e,hsq,hr⟩:=r'
  cases e
  refine⟨fun d hd=>?_,fun hl=>⟨vs,hsq,by rw [hr.length];exact hl⟩⟩
  obtain⟨v,f,h1,h2,h3,_⟩:=hr.get hd
  refine⟨⟨vs,v,hsq,h1⟩,fun x H' y=>?_⟩
  obtain⟨rfl,y⟩:=y
  have:=y vs hsq
  rw [h1] at this
  cases this
  exact⟨Same.refl _,f,h2,h3⟩
theorem A5 {K:Frag}{H0:Hp}{ds:List D}{a:Addr}{fp:List Addr}(r:Rep K false H0 (.lst ds) (.ref a) fp):sM K (Ite K a) H0 (ds.mapIdx fun i d=>.tup [.int i,d]) fp:=fun H k i=>by
  have r':=Rep.keep _ _ _ k r
  obtain⟨p,vs,fp',e,hsq,hr,hsub⟩:=bP r'
  cases e
  refine⟨fun d hd=>?_,fun hl=>⟨vs,hsq,by rw [hr.length];simpa using hl⟩⟩
  rw [List.getElem?_mapIdx] at hd
  cases hdd:ds[i]? with
  | none=>rw [hdd] at hd;cases hd
  | some d' =>
    rw [hdd] at hd
    cases hd
    obtain⟨v,f,h1,h2,h3,_⟩:=hr.get hdd
    refine⟨⟨vs,v,hsq,h1⟩,fun x H' y=>?_⟩
    obtain⟨q,w,hq,rfl,y,rfl⟩:=y
    have:=y vs hsq
    rw [h1] at this
    cases this
    refine⟨cC hq,f,oQ hq ?_,fun b hb=>hsub b (h3 b hb)⟩
    simp only [Reps]
    exact⟨.int i,[v],[],f,rfl,rfl,fZ,v,[],f,[],rfl,by simp,h2,rfl,rfl⟩
theorem xP {K:Frag}{H0:Hp}(lo:Int) (n:Nat):sM K (Itr lo n) H0 ((List.range n).map fun (k:Nat)=>.int (lo + (k:Int))) []:=fun H k i=>by
  refine⟨fun d hd=>?_,fun hl=>(show n <= i by simpa using hl)⟩
  rw [List.getElem?_map] at hd
  cases hdd:(List.range n)[i]? with
  | none=>rw [hdd] at hd;cases hd
  | some j =>
    rw [hdd] at hd
    cases hd
    obtain⟨hlt,e⟩:=List.getElem?_eq_some_iff.mp hdd
    rw [List.getElem_range] at e
    subst e
    refine⟨(show i < n by simpa using hlt),fun x H' y=>?_⟩
    obtain⟨rfl,rfl⟩:=y
    exact⟨Same.refl _,[],fZ,fun b hb=>hb⟩
noncomputable def dP (fa:En->Option D):En->Option (List D):=fun env=>match fa env with
  | some (.lst ds)=>some ds
  | some (.tup ds)=>some ds
  | _=>none
theorem dD {tg:Expr}(ha:QE X m1 rs a fa):QI X tg rs a (dP fa) :=
  .mk (PI.or (Z0Y ha) (Z2i ha)) fun σ H R ⟨env,F,ds,ok,e,q⟩=>by
    unfold dP at e
    split at e
    . rename_i ds' h1
      cases e
      refine .inl ⟨env,F,_,ok,h1,fun v H' fp s r c=>?_⟩
      have r0:=Rep.weak _ _ _ r
      obtain⟨p,vs,fp',rfl,hsq,hr,hsub⟩:=bP r
      exact⟨p,rfl,⟨vs,hsq⟩,q _ H' fp s (A4 r0) (Rep.dom _ _ _ r) ⟨c.1,fun z=>(by cases z)⟩⟩
    . rename_i ds' h1
      cases e
      refine .inr ⟨env,F,_,ok,h1,fun v H' fp s r c=>?_⟩
      have r0:=Rep.weak _ _ _ r
      have r1:=r
      simp only [Rep] at r1
      obtain⟨p,vs,rfl,hsq,hr⟩:=r1
      exact⟨p,rfl,⟨vs,hsq⟩,q _ H' fp s (P6 r0) (Rep.dom _ _ _ r) ⟨c.1,fun z=>(by cases z)⟩⟩
    . cases e
noncomputable def hG:List D->Option (List D)
  | [.int j]=>if -(2 ^ 62) <= j /\ j < 2 ^ 62 then some ((List.range j.toNat).map fun (k:Nat)=>.int (0 + (k:Int))) else none
  | _=>none
theorem iX {tg:Expr}{p:Pos}(hg:Gl X "range") (hm:X.mg "range" = none) (ha:QA X m1 rs1 [a] fs) (hs:starEach [a] X.env=[(false,eval a X.env)]:=by rfl):QI X tg rs (.Call (.Name "range" p) [a] [] pos) (fun env=>(fs env).bind hG) :=
  .mk (N0 hg hm ha hs) fun σ H R ⟨env,F,ds,ok,e,q⟩=>by
    cases h1:fs env with
    | none=>simp only [h1] at e;cases e
    | some xs =>
      simp only [h1,Option.bind_some] at e
      unfold hG at e
      split at e
      . rename_i j
        split at e
        . rename_i hj
          cases e
          refine⟨env,F,_,ok,h1,fun vs H' fp s r c=>?_⟩
          obtain⟨v,rfl,r1⟩:=iP r
          rw [bJ r1]
          exact⟨j,rfl,hj.1,hj.2,q _ H' [] s (xP 0 _) (fun b hb=>(by cases hb)) .nil⟩
        . cases e
      . cases e
noncomputable def mK:List D->Option (List D)
  | [.lst ds]=>some (ds.mapIdx fun i d=>.tup [.int i,d])
  | _=>none
theorem uU {elts:List Expr}{k1:Nat}{tpos p:Pos}(hg:Gl X "enumerate") (hm:X.mg "enumerate" = none) (ha:QA X m1 rs [a] fs) (hs:starEach [a] X.env=[(false,eval a X.env)]:=by rfl):QI X (.Tuple elts k1 tpos) rs (.Call (.Name "enumerate" p) [a] [] pos) (fun env=>(fs env).bind mK) :=
  .mk (Z0Z hg hm ha hs) fun σ H R ⟨env,F,ds,ok,e,q⟩=>by
    cases h1:fs env with
    | none=>simp only [h1] at e;cases e
    | some xs =>
      simp only [h1,Option.bind_some] at e
      unfold mK at e
      split at e
      . cases e
        refine⟨env,F,_,ok,h1,fun vs H' fp s r c=>?_⟩
        obtain⟨v,rfl,r1⟩:=iP r
        have r0:=Rep.weak _ _ _ r1
        have dm:=Rep.dom _ _ _ r1
        obtain⟨p,ws,fp',rfl,hsq,hr,hsub⟩:=bP r1
        exact⟨p,rfl,⟨ws,hsq⟩,q _ H' fp s (A5 r0) dm ⟨c.1,fun z=>(by cases z)⟩⟩
      . cases e
noncomputable def dQ (fc:En->Option Bool) (fe:En->Option D) (env:En):List D->Option (List D)
  | []=>some []
  | d :: r=>match fc (some (false,d) :: env) with
    | some true=>match fe (some (false,d) :: env),dQ fc fe env r with
      | some y,some ys=>some (y :: ys)
      | _,_=>none
    | some false=>dQ fc fe env r
    | none=>none
noncomputable def qE (fr:List Nat) (env:En):En:=fr.map fun j=>(env[j]?).join
noncomputable def dB (fr:List Nat) (src:En->Option (List D)) (fc:En->Option Bool) (fe:En->Option D):En->Option D:=fun env=>match src env with
  | some ds=>if ds.length <= 1000 then (dQ fc fe (qE fr env) ds).map .lst else none
  | none=>none
noncomputable def fTT:En->Option Bool:=fun _=>some true
theorem nI {fc:En->Option Bool}{fe:En->Option D}{env:En}:∀ {ds:List D}{ys:List D}{i:Nat}{d:D}{zs:List D},ds[i]? = some d->dQ fc fe env ds=some ys->dQ fc fe env (ds.take i)=some zs ->
    (fc (some (false,d) :: env)=some true /\ ∃ y,fe (some (false,d) :: env)=some y /\ dQ fc fe env (ds.take (i + 1))=some (zs ++ [y])) \/ (fc (some (false,d) :: env)=some false /\ dQ fc fe env (ds.take (i + 1))=some zs)
  | [],ys,i,d,zs,h,_,_=>by simp at h
  | d' :: ds,ys,0,d,zs,h,h1,h2=>by
    simp at h
    subst h
    simp only [List.take_zero,dQ] at h2
    cases h2
    unfold dQ at h1
    simp only [Nat.zero_add,List.take_succ_cons,List.take_zero,dQ]
    split at h1
    . rename_i hc
      split at h1
      . rename_i y ys' e1 e2
        exact .inl ⟨hc,y,e1,by simp [hc,e1]⟩
      . cases h1
    . rename_i hc
      exact .inr ⟨hc,by simp [hc]⟩
    . cases h1
  | d' :: ds,ys,i + 1,d,zs,h,h1,h2=>by
    have h':ds[i]? = some d:=by simpa using h
    unfold dQ at h1
    simp only [List.take_succ_cons] at h2 ⊢
    unfold dQ at h2
    split at h1
    . rename_i hc
      split at h1
      . rename_i y ys' e1 e2
        simp only [hc,e1] at h2
        cases h3:dQ fc fe env (ds.take i) with
        | none=>rw [h3] at h2;cases h2
        | some z' =>
          rw [h3] at h2
          cases h2
          rcases nI h' e2 h3 with ⟨a1,y',a2,a3⟩ | ⟨a1,a2⟩
          . exact .inl ⟨a1,y',a2,by unfold dQ;simp [hc,e1,a3]⟩
          . exact .inr ⟨a1,by unfold dQ;simp [hc,e1,a2]⟩
      . cases h1
    . rename_i hc
      simp only [hc] at h2
      rcases nI h' h1 h2 with ⟨a1,y',a2,a3⟩ | ⟨a1,a2⟩
      . exact .inl ⟨a1,y',a2,by unfold dQ;simp [hc,a3]⟩
      . exact .inr ⟨a1,by unfold dQ;simp [hc,a2]⟩
    . cases h1
theorem pJ {fc:En->Option Bool}{fe:En->Option D}{env:En}:∀ {ds ys:List D},dQ fc fe env ds=some ys->ys.length <= ds.length
  | [],ys,h=>by simp only [dQ] at h;cases h;exact Nat.le_refl _
  | d :: ds,ys,h=>by
    unfold dQ at h
    split at h
    . split at h
      . rename_i y ys' e1 e2
        cases h
        simp only [List.length_cons]
        exact Nat.succ_le_succ (pJ e2)
      . cases h
    . exact Nat.le_succ_of_le (pJ h)
    . cases h
end
theorem Z08 {K:Frag}{H:Hp}{σ:L2.St}{env:En}{F:Nat->List Addr}{fr:List Nat}{d:D}{v:V}{f:List Addr}(ok:EnvOk K H σ env F) (r:Rep K false H d v f) :
    ∃ F',EnvOk K H ((lP 1 fr σ).set 0 (some v)) (some (false,d) :: qE fr env) F':=by
  refine⟨fun i=>match i with | 0=>f | i + 1=>F (fr.getD i 0),fun i o d' e=>?_⟩
  cases i with
  | zero =>
    simp at e
    obtain⟨_,rfl⟩:=e
    exact⟨v,by simp [lP],r⟩
  | succ i =>
    simp only [List.getElem?_cons_succ,qE,List.getElem?_map] at e
    cases hj:fr[i]? with
    | none=>rw [hj] at e;cases e
    | some j =>
      rw [hj] at e
      simp only [Option.map_some,Option.some.injEq] at e
      cases hq:env[j]? with
      | none=>rw [hq] at e;cases e
      | some s =>
        rw [hq] at e
        simp only [Option.join_some] at e
        subst e
        obtain⟨w,h1,h2⟩:=ok j o d' hq
        refine⟨w,?_,?_⟩
        . simp [lP,hj,h1]
        . have:fr.getD i 0=j:=by simp [List.getD,hj]
          simp only [this]
          exact h2
section
variable {X:Cx}{m m' m1 m2:Bool}{rs rs' rs1 rs2:List Nat}{elt iter:Expr}{ifs:List Expr}{scope:Scope}{pos px:Pos}{x:Str}{fr:List Nat}{src:En->Option (List D)}{fc:En->Option Bool}{fe:En->Option D}
noncomputable def QTs (X:Cx) (ifs:List Expr) (f:En->Option Bool):Prop:=PTs X ifs (tDT X.K f)
theorem iU:QTs X [] fTT:=fun pins s σ H Q I ⟨env,F,b,ok,e,q⟩=>Z0S pins s σ H Q I (by cases e;exact q H (Same.refl H))
theorem uT {c:Expr}{g:En->Option Bool}(h:QT X c g):QTs X [c] g:=fun pins s σ H Q I q=>Z0R h pins s σ H Q I q
theorem pH {K:Frag}{σ:L2.St}{H:Hp}{Q:VK}(h:tD K true [] (dB fr src fc fe) σ H Q) :
    T1 (tDI K rs src) 1 fr (uE 0) (tDT K fc) (tD K true [] fe) σ H Q:=by
  obtain⟨env,F,d,ok,e,q⟩:=h
  unfold dB at e
  cases h1:src env with
  | none=>rw [h1] at e;cases e
  | some ds =>
    rw [h1] at e
    simp only at e
    split at e
    . rename_i hlen
      cases h2:dQ fc fe (qE fr env) ds with
      | none=>rw [h2] at e;cases e
      | some ys =>
        rw [h2] at e
        cases e
        refine⟨env,F,ds,ok,h1,fun J H1 fp s1 gv dm cd=>?_⟩
        intro acc hacc
        refine⟨fun i k vs H2=>i <= ds.length /\ k=ds.length - i /\ H2 acc=some (.lst vs) /\ Same H1 H2 /\ ∃ zs f,dQ fc fe (qE fr env) (ds.take i)=some zs /\ Reps K true H2 zs vs f /\ f.Nodup /\ (∀ b ∈ f,H1 b=none) /\ acc ∉ f,
          ⟨ds.length,Nat.zero_le _,rfl,aV,cC hacc,[],[],by simp [dQ],by simp only [Reps];exact⟨trivial,trivial⟩,List.nodup_nil,fun b hb=>(by cases hb),by simp⟩,?_⟩
        rintro i k vs H2 ⟨hi,hk,ha,sm,zs,f,hz,hr,nd,hfr,hna⟩
        refine⟨ha,?_⟩
        have gi:=gv H2 (Kp.same sm fp) i
        by_cases hlt:i < ds.length
        . right
          have hd:ds[i]? = some ds[i]:=List.getElem?_eq_getElem hlt
          obtain⟨go,hy⟩:=gi.1 _ hd
          refine⟨go,fun x H3 y3=>?_⟩
          obtain⟨sm3,f3,r3,_⟩:=hy x H3 y3
          refine⟨⟨by simp [lP],by simp [lP]⟩,?_⟩
          have ok3:EnvOk K H3 σ env F:=ok.same ((s1.trans sm).trans sm3)
          obtain⟨F',okin⟩:=Z08 (fr:=fr) ok3 r3
          rcases nI hd h2 hz with ⟨c1,y',c2,c3⟩ | ⟨c1,c2⟩
          . refine⟨_,F',true,okin,c1,fun H4 s4=>O8 ⟨_,F',y',okin.same s4,c2,fun v H5 fp5 s5 r5 c5=>?_⟩⟩
            have s25:Same H2 H5:=(sm3.trans s4).trans s5
            have s35:Same H4 H5:=s5
            have ha5:H5 acc=some (.lst vs):=s25 _ _ ha
            have hna5:acc ∉ fp5:=fun z=>by
              have:=(c5.2 rfl).2 acc z
              rw [(sm3.trans s4) _ _ ha] at this
              cases this
            have lv:vs.length < 1000:=by
              have:=pJ hz
              have h4:=hr.length
              rw [List.length_take] at this
              omega
            refine⟨vs,ha5,kI (Nat.le_of_lt lv),ds.length - (i + 1),by omega,hlt,rfl,aV,?_,zs ++ [y'],f ++ fp5,c3,?_,?_,?_,?_⟩
            . intro b o hb
              have hba:b ≠ acc:=aR hb hacc
              rw [aM hba]
              exact s25 _ _ (sm _ _ hb)
            . have e1:=Reps.keep _ _ _ (Kp.upd (o':=.lst (vs ++ [v])) ha5 (by intro xs z;cases z) (by intro a b z;cases z) hna) (hr.same s25)
              have e2:=Rep.keep _ _ _ (Kp.upd (o':=.lst (vs ++ [v])) ha5 (by intro xs z;cases z) (by intro a b z;cases z) hna5) r5
              exact e1.snoc e2
            . refine List.nodup_append.mpr ⟨nd,(c5.2 rfl).1,fun a ha' b hb z=>?_⟩
              obtain⟨o,ho⟩:=Reps.dom _ _ _ hr a ha'
              have:=(c5.2 rfl).2 b hb
              rw [<- z,(sm3.trans s4) _ _ ho] at this
              cases this
            . intro b hb
              rcases List.mem_append.mp hb with z | z
              . exact hfr b z
              . exact ((sm.trans sm3).trans s4).free ((c5.2 rfl).2 b z)
            . intro z
              rcases List.mem_append.mp z with z | z
              . exact hna z
              . exact hna5 z
          . refine⟨_,F',false,okin,c1,fun H4 s4=>O9 ⟨ds.length - (i + 1),vs,by omega,hlt,rfl,(sm3.trans s4) _ _ ha,(sm.trans sm3).trans s4,zs,f,c2,hr.same (sm3.trans s4),nd,hfr,hna⟩⟩
        . left
          have hi':i=ds.length:=by omega
          refine⟨gi.2 (by omega),?_⟩
          have hz':dQ fc fe (qE fr env) ds=some zs:=by rw [hi',List.take_length] at hz;exact hz
          rw [h2] at hz'
          cases hz'
          refine q _ H2 (acc :: f) (s1.trans sm) ?_ ⟨fun b hb=>?_,fun _=>⟨List.nodup_cons.mpr ⟨hna,nd⟩,fun b hb=>?_⟩⟩
          . simp only [Rep]
            exact⟨acc,vs,f,rfl,hr,.inl ⟨rfl,ha⟩⟩
          . rcases List.mem_cons.mp hb with z | z
            . exact .inl (by rw [z];exact s1.free hacc)
            . exact .inl (s1.free (hfr b z))
          . rcases List.mem_cons.mp hb with z | z
            . rw [z];exact s1.free hacc
            . exact s1.free (hfr b z)
    . cases e
theorem jR (hc:X.calm=true) (chk:gY X.env.scope X.N scope fr=true) (hi:QI X (.Name x px) rs iter src)
    (hnd:(fD [x] fr X.N).Nodup) (hx:scope.names.lookup x=some .local)
    (ht:∀ cl C s0 H0 ex pins,QTs (fM X (fD [x] fr X.N) scope cl C s0 H0 ex pins) ifs fc)
    (he:∀ cl C s0 H0 ex pins,QE (fM X (fD [x] fr X.N) scope cl C s0 H0 ex pins) true [] elt fe)
    (hs:∀ x,foldedSetIterable iter X.env x=pure x:=by intro _;rfl) :
    QE X true [] (.ListComp elt [⟨.Name x px,iter,ifs,0⟩] scope pos) (dB fr src fc fe) :=
  .mk (D9 (tgs:=[x]) (tt:=tDT X.K fc) (te:=tD X.K true [] fe) hc chk hi (fun cl C s0 H0 ex pins=>dU (i:=0) hnd rfl (.inl (lookup_relabel_local hx)) (.inr (lookup_relabel_local hx))) ht he hs) fun σ H Q h=>pH h
end
structure EnvS (K:Frag) (P H:Hp) (σ:L2.St) (env:En) (F:Nat->List Addr):Prop where
  ok:EnvOk K H σ env F
  own:∀ i d,env[i]? = some (some (true,d))->(F i).Nodup /\ (∀ b ∈ F i,P b=none) /\ (∀ v,σ[i]? = some (some v)->Rep K true H d v (F i)) /\ ∀ j s,j ≠ i->env[j]? = some (some s)->∀ b ∈ F i,b ∉ F j
structure SInv (K:Frag) (P H:Hp) (σ:L2.St) (env:En):Prop where
  same:Same P H
  len:σ.length=env.length
  ex:∃ F,EnvS K P H σ env F
theorem EnvS.dom {K:Frag}{P H:Hp}{σ:L2.St}{env:En}{F:Nat->List Addr}(h:EnvS K P H σ env F) {i:Nat}{s:Bool × D}(e:env[i]? = some (some s)):∀ b ∈ F i,∃ o,H b=some o:=by
  obtain⟨o,d⟩:=s
  obtain⟨v,_,r⟩:=h.ok i o d e
  exact Rep.dom _ _ _ r
theorem EnvS.grow {K:Frag}{P H H':Hp}{σ:L2.St}{env:En}{F:Nat->List Addr}(h:EnvS K P H σ env F) (s:Same H H'):EnvS K P H' σ env F :=
  ⟨h.ok.same s,fun i d e=>let ⟨a,b,c,q⟩:=h.own i d e;⟨a,b,fun v hv=>(c v hv).same s,q⟩⟩
theorem SInv.grow {K:Frag}{P H H':Hp}{σ:L2.St}{env:En}(h:SInv K P H σ env) (s:Same H H'):SInv K P H' σ env :=
  ⟨h.same.trans s,h.len,let ⟨F,hF⟩:=h.ex;⟨F,hF.grow s⟩⟩
inductive Res where
  | next (env:En) | ret (d:D) | brk (env:En) | cont (env:En) | bad
noncomputable def Z0m (K:Frag) (P:Hp) (E:yN):Res->Prop
  | .next env=>∀ σ H,SInv K P H σ env->E.nx σ H
  | .ret d=>∀ v H fp,Same P H->Rep K true H d v fp->(∀ b ∈ fp,P b=none)->fp.Nodup->E.rt v H
  | .brk env=>∀ σ H,SInv K P H σ env->E.bk σ H
  | .cont env=>∀ σ H,SInv K P H σ env->E.ct σ H
  | .bad=>False
noncomputable def tDS (K:Frag) (g:En->Res):TS:=fun E σ H=>∃ P env,SInv K P H σ env /\ Z0m K P E (g env)
noncomputable def QS (X:Cx) (st:Stmt) (g:En->Res):Prop:=PS X st (tDS X.K g)
noncomputable def QSs (X:Cx) (st:List Stmt) (g:En->Res):Prop:=PSs X st (tDS X.K g)
theorem QS.mk {X:Cx}{st:Stmt}{g:En->Res}{t:TS}(h:PS X st t) (hi:∀ E σ H,tDS X.K g E σ H->t E σ H):QS X st g:=fun pins s σ H E I q=>h pins s σ H E I (hi E σ H q)
theorem QSs.mk {X:Cx}{st:List Stmt}{g:En->Res}{t:TS}(h:PSs X st t) (hi:∀ E σ H,tDS X.K g E σ H->t E σ H):QSs X st g:=fun pins s σ H E I q=>h pins s σ H E I (hi E σ H q)
noncomputable def B0 (F:Nat->List Addr) (i:Nat) (f:List Addr):Nat->List Addr:=fun j=>if j=i then f else F j
theorem bL {F:Nat->List Addr}{i:Nat}{f:List Addr}:B0 F i f i=f:=if_pos rfl
theorem aU {F:Nat->List Addr}{i j:Nat}{f:List Addr}(h:j ≠ i):B0 F i f j=F j:=if_neg h
theorem dF {α:Type}{l:List α}{i j:Nat}{x:α}(h:i < l.length):(l.set i x)[j]? = if j=i then some x else l[j]?:=by
  by_cases e:j=i
  . subst e;rw [if_pos rfl,List.getElem?_set_self h]
  . rw [if_neg e,List.getElem?_set_ne (Ne.symm e)]
theorem tK {K:Frag}{P H H':Hp}{σ:L2.St}{env:En}{F:Nat->List Addr}{d:D}{v:V}{fp:List Addr}(i:Nat) (sm:Same P H) (hl:σ.length=env.length) (h:EnvS K P H σ env F) (s:Same H H') (r:Rep K true H' d v fp) (nd:fp.Nodup) (fr:∀ b ∈ fp,H b=none) :
    SInv K P H' (σ.set i (some v)) (env.set i (some (true,d))):=by
  refine⟨sm.trans s,by simp [hl],B0 F i fp,?_,?_⟩
  . intro j o d' e
    by_cases hi:i < env.length
    . rw [dF hi] at e
      by_cases hj:j=i
      . subst hj
        rw [if_pos rfl] at e
        cases e
        exact⟨v,List.getElem?_set_self (by omega),by rw [bL];exact Rep.weak _ _ _ r⟩
      . rw [if_neg hj] at e
        obtain⟨w,h1,h2⟩:=h.ok j o d' e
        exact⟨w,by rw [List.getElem?_set_ne (Ne.symm hj)];exact h1,by rw [aU hj];exact h2.same s⟩
    . rw [List.set_eq_of_length_le (by omega)] at e
      have hj:j ≠ i:=fun z=>by rw [z,List.getElem?_eq_none (by omega)] at e;cases e
      obtain⟨w,h1,h2⟩:=h.ok j o d' e
      exact⟨w,by rw [List.getElem?_set_ne (Ne.symm hj)];exact h1,by rw [aU hj];exact h2.same s⟩
  . intro j d' e
    by_cases hi:i < env.length
    . rw [dF hi] at e
      by_cases hj:j=i
      . subst hj
        rw [if_pos rfl] at e
        cases e
        refine⟨by rw [bL];exact nd,fun b hb=>?_,fun w hw=>?_,fun k s' hk ek b hb=>?_⟩
        . rw [bL] at hb
          cases hP:P b with
          | none=>rfl
          | some o=>have:=sm _ _ hP;rw [fr b hb] at this;cases this
        . rw [List.getElem?_set_self (by omega)] at hw
          cases hw
          rw [bL];exact r
        . rw [bL] at hb
          rw [aU hk]
          rw [dF hi,if_neg hk] at ek
          intro z
          obtain⟨o,ho⟩:=h.dom ek b z
          rw [fr b hb] at ho;cases ho
      . rw [if_neg hj] at e
        obtain⟨a1,a2,a3,a4⟩:=h.own j d' e
        refine⟨by rw [aU hj];exact a1,fun b hb=>a2 b (by rw [aU hj] at hb;exact hb),fun w hw=>?_,fun k s' hk ek b hb=>?_⟩
        . rw [List.getElem?_set_ne (Ne.symm hj)] at hw
          rw [aU hj];exact (a3 w hw).same s
        . rw [aU hj] at hb
          rw [dF hi] at ek
          by_cases hki:k=i
          . subst hki
            rw [bL]
            intro z
            obtain⟨o,ho⟩:=h.dom e b hb
            rw [fr b z] at ho;cases ho
          . rw [if_neg hki] at ek
            rw [aU hki]
            exact a4 k s' hk ek b hb
    . rw [List.set_eq_of_length_le (by omega)] at e
      have hj:j ≠ i:=fun z=>by rw [z,List.getElem?_eq_none (by omega)] at e;cases e
      obtain⟨a1,a2,a3,a4⟩:=h.own j d' e
      refine⟨by rw [aU hj];exact a1,fun b hb=>a2 b (by rw [aU hj] at hb;exact hb),fun w hw=>?_,fun k s' hk ek b hb=>?_⟩
      . rw [List.getElem?_set_ne (Ne.symm hj)] at hw
        rw [aU hj];exact (a3 w hw).same s
      . rw [aU hj] at hb
        rw [List.set_eq_of_length_le (by omega)] at ek
        have hki:k ≠ i:=fun z=>by rw [z,List.getElem?_eq_none (by omega)] at ek;cases ek
        rw [aU hki]
        exact a4 k s' hk ek b hb
theorem wK {K:Frag}{P H H':Hp}{σ:L2.St}{env:En}{F:Nat->List Addr}{d:D}{v:V}{fp:List Addr}(i:Nat) (sm:Same P H) (hl:σ.length=env.length) (h:EnvS K P H σ env F) (s:Same H H') (r:Rep K false H' d v fp)
    (fr:∀ j d',env[j]? = some (some (true,d'))->∀ b ∈ F j,b ∉ fp):SInv K P H' (σ.set i (some v)) (env.set i (some (false,d))):=by
  refine⟨sm.trans s,by simp [hl],B0 F i fp,?_,?_⟩
  . intro j o d' e
    by_cases hi:i < env.length
    . rw [dF hi] at e
      by_cases hj:j=i
      . subst hj
        rw [if_pos rfl] at e
        cases e
        exact⟨v,List.getElem?_set_self (by omega),by rw [bL];exact r⟩
      . rw [if_neg hj] at e
        obtain⟨w,h1,h2⟩:=h.ok j o d' e
        exact⟨w,by rw [List.getElem?_set_ne (Ne.symm hj)];exact h1,by rw [aU hj];exact h2.same s⟩
    . rw [List.set_eq_of_length_le (by omega)] at e
      have hj:j ≠ i:=fun z=>by rw [z,List.getElem?_eq_none (by omega)] at e;cases e
      obtain⟨w,h1,h2⟩:=h.ok j o d' e
      exact⟨w,by rw [List.getElem?_set_ne (Ne.symm hj)];exact h1,by rw [aU hj];exact h2.same s⟩
  . intro j d' e
    have hji:j ≠ i:=by
      rintro rfl
      by_cases hi:j < env.length
      . rw [dF hi,if_pos rfl] at e;cases e
      . rw [List.set_eq_of_length_le (by omega),List.getElem?_eq_none (by omega)] at e;cases e
    rw [List.getElem?_set_ne (Ne.symm hji)] at e
    obtain⟨a1,a2,a3,a4⟩:=h.own j d' e
    refine⟨by rw [aU hji];exact a1,fun b hb=>a2 b (by rw [aU hji] at hb;exact hb),fun w hw=>?_,fun k s' hk ek b hb=>?_⟩
    . rw [List.getElem?_set_ne (Ne.symm hji)] at hw
      rw [aU hji];exact (a3 w hw).same s
    . rw [aU hji] at hb
      by_cases hki:k=i
      . subst hki
        rw [bL]
        exact fr j d' e b hb
      . rw [List.getElem?_set_ne (Ne.symm hki)] at ek
        rw [aU hki]
        exact a4 k s' hk ek b hb
noncomputable def fz1 (r:Nat) (env:En):En:=match env[r]? with
  | some (some (_,d))=>env.set r (some (false,d))
  | _=>env
noncomputable def fz:List Nat->En->En
  | [],env=>env
  | r :: rs,env=>fz rs (fz1 r env)
theorem Z1i {r:Nat}{env:En}:(fz1 r env).length=env.length:=by
  unfold fz1;split <;> simp
theorem G0 {r j:Nat}{env:En}:(fz1 r env)[j]? = if j=r then (env[j]?).map (Option.map fun p=>(false,p.2)) else env[j]?:=by
  unfold fz1
  split
  . rename_i o d h
    have hr:r < env.length:=(List.getElem?_eq_some_iff.mp h).1
    rw [dF hr]
    by_cases hj:j=r
    . subst hj;simp [h]
    . simp [hj]
  . rename_i h
    by_cases hj:j=r
    . subst hj
      rw [if_pos rfl]
      cases h1:env[j]? with
      | none=>rfl
      | some o =>
        cases o with
        | none=>rfl
        | some p=>exact absurd h1 (h p.1 p.2)
    . rw [if_neg hj]
theorem EnvS.fz1 {K:Frag}{P H:Hp}{σ:L2.St}{env:En}{F:Nat->List Addr}(r:Nat) (h:EnvS K P H σ env F):EnvS K P H σ (PD.fz1 r env) F:=by
  have back:∀ {j:Nat}{o:Bool}{d:D},(PD.fz1 r env)[j]? = some (some (o,d))->∃ o',env[j]? = some (some (o',d)) /\ (j=r->o=false) /\ (j ≠ r->o'=o):=by
    intro j o d e
    rw [G0] at e
    by_cases hj:j=r
    . rw [if_pos hj] at e
      cases h1:env[j]? with
      | none=>rw [h1] at e;cases e
      | some s =>
        cases s with
        | none=>rw [h1] at e;cases e
        | some p =>
          rw [h1] at e
          cases e
          exact⟨p.1,rfl,fun _=>rfl,fun z=>absurd hj z⟩
    . rw [if_neg hj] at e
      exact⟨o,e,fun z=>absurd z hj,fun _=>rfl⟩
  refine⟨fun j o d e=>?_,fun j d e=>?_⟩
  . obtain⟨o',h1,_⟩:=back e
    exact h.ok j o' d h1
  . obtain⟨o',h1,h2,h3⟩:=back e
    have hj:j ≠ r:=fun z=>by cases h2 z
    have:=h3 hj
    subst this
    obtain⟨a1,a2,a3,a4⟩:=h.own j d h1
    refine⟨a1,a2,a3,fun k s hk ek b hb=>?_⟩
    obtain⟨o2,d2⟩:=s
    obtain⟨o3,h4,_⟩:=back ek
    exact a4 k _ hk h4 b hb
theorem EnvS.fz {K:Frag}{P H:Hp}{σ:L2.St}{F:Nat->List Addr}:∀ (rs:List Nat) {env:En},EnvS K P H σ env F->EnvS K P H σ (PD.fz rs env) F
  | [],_,h=>h
  | r :: rs,_,h=>EnvS.fz rs (h.fz1 r)
theorem vM:∀ (rs:List Nat) {env:En},(fz rs env).length=env.length
  | [],_=>rfl
  | r :: rs,env=>by show (fz rs (fz1 r env)).length=_;rw [vM rs,Z1i]
theorem Z03:∀ (rs:List Nat) {env:En}{j:Nat}{d:D},(fz rs env)[j]? = some (some (true,d))->j ∉ rs /\ env[j]? = some (some (true,d))
  | [],env,j,d,e=>⟨by simp,e⟩
  | r :: rs,env,j,d,e=>by
    obtain⟨h1,h2⟩:=Z03 rs (env:=fz1 r env) e
    rw [G0] at h2
    by_cases hj:j=r
    . rw [if_pos hj] at h2
      cases h3:env[j]? with
      | none=>rw [h3] at h2;cases h2
      | some s =>
        cases s with
        | none=>rw [h3] at h2;cases h2
        | some p=>rw [h3] at h2;cases h2
    . rw [if_neg hj] at h2
      exact⟨by simp [hj,h1],h2⟩
noncomputable def nrm (env:En) (F:Nat->List Addr):Nat->List Addr:=fun i=>match env[i]? with | some (some _)=>F i | _=>[]
theorem rM {env:En}{F:Nat->List Addr}{i:Nat}{s:Bool × D}(h:env[i]? = some (some s)):nrm env F i=F i:=by unfold nrm;rw [h]
theorem Z16 {env:En}{F:Nat->List Addr}{i:Nat}{b:Addr}(h:b ∈ nrm env F i):∃ s,env[i]? = some (some s):=by
  unfold nrm at h
  split at h
  . rename_i s e;exact⟨s,e⟩
  . cases h
theorem EnvS.nrm {K:Frag}{P H:Hp}{σ:L2.St}{env:En}{F:Nat->List Addr}(h:EnvS K P H σ env F):EnvS K P H σ env (PD.nrm env F):=by
  refine⟨fun i o d e=>by rw [rM e];exact h.ok i o d e,fun i d e=>?_⟩
  obtain⟨a1,a2,a3,a4⟩:=h.own i d e
  rw [rM e]
  exact⟨a1,a2,a3,fun j s hj ej=>by rw [rM ej];exact a4 j s hj ej⟩
section
variable {X:Cx}{m m' m1 m2:Bool}{rs rs' rs1 rs2:List Nat}{e a b c:Expr}{es rest:List Expr}{f fa fb fc:En->Option D}{c':En->Option Bool}{pos p pos':Pos}{st:Stmt}{sts:List Stmt}{g h:En->Res}{i:Nat}{x:Str}
noncomputable def aO (g h:En->Res):En->Res:=fun env=>match g env with
  | .next env'=>h env'
  | r=>r
noncomputable def bX:En->Res:=.next
theorem bI:QSs X [] bX:=.mk Z0U fun E σ H ⟨P,env,I,q⟩=>q σ H I
theorem aF (h1:QS X st g) (h2:QSs X sts h):QSs X (st :: sts) (aO g h):=.mk (rH h1 h2) fun E σ H ⟨P,env,I,q⟩=>by
  refine⟨P,env,I,?_⟩
  unfold aO at q
  cases hg:g env with
  | next env'=>rw [hg] at q;exact fun σ' H' I'=>⟨P,env',I',q⟩
  | ret d=>rw [hg] at q;exact q
  | brk _=>rw [hg] at q;exact q
  | cont _=>rw [hg] at q;exact q
  | bad=>rw [hg] at q;exact q
theorem aH (h1:QS X st g):QSs X [st] g:=.mk (D6 h1) fun E σ H q=>q
noncomputable def rIf (c:En->Option Bool) (g h:En->Res):En->Res:=fun env=>match c env with
  | some true=>g env
  | some false=>h env
  | none=>.bad
theorem cN {sa sb:List Stmt}(hc:QT X c c') (ha:QSs X sa g) (hb:QSs X sb h):QS X (.If c sa sb pos) (rIf c' g h):=.mk (Z3d hc ha hb) fun E σ H ⟨P,env,I,q⟩=>by
  obtain⟨F,hF⟩:=I.ex
  unfold rIf at q
  split at q
  . rename_i h1
    exact⟨env,F,true,hF.ok,h1,fun H' s=>O8 ⟨P,env,I.grow s,q⟩⟩
  . rename_i h1
    exact⟨env,F,false,hF.ok,h1,fun H' s=>O9 ⟨P,env,I.grow s,q⟩⟩
  . exact q.elim
noncomputable def bU (f:En->Option D):En->Res:=fun env=>match f env with
  | some d=>.ret d
  | none=>.bad
theorem aY (he:QE X true [] e f):QS X (.Return (some e) pos) (bU f):=.mk (zK he) fun E σ H ⟨P,env,I,q⟩=>by
  obtain⟨F,hF⟩:=I.ex
  unfold bU at q
  split at q
  . rename_i d h1
    refine⟨env,F,d,hF.ok,h1,fun v H' fp s r c=>q v H' fp (I.same.trans s) r (fun b hb=>?_) (c.2 rfl).1⟩
    cases hP:P b with
    | none=>rfl
    | some o=>have:=I.same _ _ hP;rw [(c.2 rfl).2 b hb] at this;cases this
  . exact q.elim
theorem lA (hN:X.N[i]? = some x:=by rfl) (hv:Vis X.env.scope x:=by first | exact Or.inl rfl | exact Or.inr (Or.inl rfl) | exact Or.inr (Or.inr rfl)) (hd:(x == ("__debug__" : Str))=false:=by decide) (hcd:(x == ("__classdict__" : Str))=false:=by decide) :
    QS X (.Return (some (.Name x p)) pos) (fun env=>match env[i]? with | some (some (true,d))=>.ret d | _=>.bad):=.mk (zK (iK hN hv hd hcd)) fun E σ H ⟨P,env,I,q⟩=>by
  obtain⟨F,hF⟩:=I.ex
  simp only at q
  split at q
  . rename_i d h1
    obtain⟨v,h2,_⟩:=hF.ok i true d h1
    obtain⟨a1,a2,a3,_⟩:=hF.own i d h1
    exact⟨v,h2,q v H _ I.same (a3 v h2) a2 a1⟩
  . exact q.elim
noncomputable def bR (i:Nat) (f:En->Option D):En->Res:=fun env=>match f env with
  | some d=>.next (env.set i (some (true,d)))
  | none=>.bad
theorem tO {K:Frag}{E:yN}{σ:L2.St}{H:Hp}{i:Nat}{f:En->Option D}(h:tDS K (bR i f) E σ H):K8 (tD K true [] f) (uE i) E σ H:=by
  obtain⟨P,env,I,q⟩:=h
  obtain⟨F,hF⟩:=I.ex
  unfold bR at q
  split at q
  . rename_i d h1
    exact⟨env,F,d,hF.ok,h1,fun v H' fp s r c=>q _ H' (tK i I.same I.len hF s r (c.2 rfl).1 (c.2 rfl).2)⟩
  . exact q.elim
theorem bC (hN:X.N.Nodup) (hi:X.N[i]? = some x) (hx:Loc X.env.scope x) (he:QE X true [] e f) (hs:swapsWith e (some (.Name x pos')) pos.line X.env=pure false:=by rfl) (hf:X.fn x=true \/ X.env.scope.names.lookup x=some .local:=by first | exact .inl rfl | exact .inr rfl | assumption) :
    QS X (.Assign [.Name x pos'] e pos) (bR i f):=.mk (zJ hN hi hx he hs hf) fun E σ H q=>tO q
theorem nD {elt iter:Expr}{ifs:List Expr}{scope:Scope}{px spos:Pos}{y:Str}{fr:List Nat}{src:En->Option (List D)}{fc:En->Option Bool}{fe:En->Option D}
    (hc:X.calm=true) (hN:X.N.Nodup) (hi':X.N[i]? = some x) (hx':Loc X.env.scope x) (chk:gY X.env.scope X.N scope fr=true) (hi:QI X (.Name y px) rs iter src)
    (hnd:(fD [y] fr X.N).Nodup) (hx:scope.names.lookup y=some .local)
    (ht:∀ cl C s0 H0 ex pins,QTs (fM X (fD [y] fr X.N) scope cl C s0 H0 ex pins) ifs fc)
    (he:∀ cl C s0 H0 ex pins,QE (fM X (fD [y] fr X.N) scope cl C s0 H0 ex pins) true [] elt fe)
    (hsw:swapsWith (.ListComp elt [⟨.Name y px,iter,ifs,0⟩] scope pos) (some (.Name x pos')) spos.line X.env=pure true:=by rfl)
    (hf:X.fn x=true \/ X.env.scope.names.lookup x=some .local:=by first | exact .inl rfl | exact .inr rfl | assumption)
    (hs:∀ x,foldedSetIterable iter X.env x=pure x:=by intro _;rfl) :
    QS X (.Assign [.Name x pos'] (.ListComp elt [⟨.Name y px,iter,ifs,0⟩] scope pos) spos) (bR i (dB fr src fc fe)) :=
  .mk (zI (tgs:=[y]) (tt:=tDT X.K fc) (te:=tD X.K true [] fe) hc hN hi' hx' chk hi (fun cl C s0 H0 ex pins=>dU (i:=0) hnd rfl (.inl (lookup_relabel_local hx)) (.inr (lookup_relabel_local hx))) ht he hsw hf hs)
    fun E σ H q=>pH (tO q)
noncomputable def U4 (i:Nat) (rs:List Nat) (f:En->Option D):En->Res:=fun env=>match f env with
  | some d=>.next ((fz rs env).set i (some (false,d)))
  | none=>.bad
theorem rA {K:Frag}{P H:Hp}{σ:L2.St}{env:En}{F:Nat->List Addr}{fp:List Addr}(hF:EnvS K P H σ env F) (c:Cond (nrm env F) H m rs fp):∀ j d',(fz rs env)[j]? = some (some (true,d'))->∀ b ∈ nrm env F j,b ∉ fp:=by
  intro j d' e b hb z
  obtain⟨h1,h2⟩:=Z03 rs e
  rcases c.1 b z with y | ⟨r,hr,y⟩
  . obtain⟨o,ho⟩:=hF.nrm.dom h2 b hb
    rw [y] at ho;cases ho
  . obtain⟨s,hs⟩:=Z16 y
    exact (hF.nrm.own j d' h2).2.2.2 r s (fun z=>h1 (z ▸ hr)) hs b hb y
theorem Z0J (hN:X.N.Nodup) (hi:X.N[i]? = some x) (hx:Loc X.env.scope x) (he:QE X m rs e f) (hs:swapsWith e (some (.Name x pos')) pos.line X.env=pure false:=by rfl) (hf:X.fn x=true \/ X.env.scope.names.lookup x=some .local:=by first | exact .inl rfl | exact .inr rfl | assumption) :
    QS X (.Assign [.Name x pos'] e pos) (U4 i rs f):=.mk (zJ hN hi hx he hs hf) fun E σ H ⟨P,env,I,q⟩=>by
  obtain⟨F,hF⟩:=I.ex
  unfold U4 at q
  split at q
  . rename_i d h1
    refine⟨env,nrm env F,d,hF.nrm.ok,h1,fun v H' fp s r c=>q _ H' (wK i I.same (by rw [vM];exact I.len) (hF.nrm.fz rs) s (Rep.weak _ _ _ r) (rA hF c))⟩
  . exact q.elim
noncomputable def gQ (i:Nat) (f:En->Option D):En->Res:=fun env=>match f env,env[i]? with
  | some d,some (some (true,.lst ds))=>if ds.length <= 1000 then .next (env.set i (some (true,.lst (ds ++ [d])))) else .bad
  | _,_=>.bad
theorem tH {K:Frag}{P H:Hp}{σ:L2.St}{env:En}{F:Nat->List Addr}{i:Nat}{ds ds':List D}{a:Addr}{vs vs':List V}{fp' fp2:List Addr}(sm:Same P H) (hl:σ.length=env.length) (h:EnvS K P H σ env F) (ei:env[i]? = some (some (true,.lst ds)))
    (hv:σ[i]? = some (some (.ref a))) (hF:F i=a :: fp') (ha:H a=some (.lst vs)) (r:Reps K true H ds' vs' fp2) (nd:(a :: fp2).Nodup) (hn:∀ b ∈ fp2,b ∈ fp' \/ (P b=none /\ ∀ j s,env[j]? = some (some s)->b ∉ F j)) :
    SInv K P (upd H a (.lst vs')) σ (env.set i (some (true,.lst ds'))):=by
  have hi:i < env.length:=(List.getElem?_eq_some_iff.mp ei).1
  obtain⟨o1,o2,o3,o4⟩:=h.own i _ ei
  have ha0:a ∈ F i:=by rw [hF];exact List.mem_cons_self
  have kp:∀ {fp:List Addr},a ∉ fp->Kp fp H (upd H a (.lst vs')):=fun hn=>Kp.upd ha (by intro xs z;cases z) (by intro x u z;cases z) hn
  have na:a ∉ fp2:=(List.nodup_cons.mp nd).1
  have new:∀ st,Rep K st (upd H a (.lst vs')) (.lst ds') (.ref a) (a :: fp2):=fun st=>by
    have r':=Reps.keep _ _ _ (kp na) r
    cases st with
    | true=>simp only [Rep];exact⟨a,vs',fp2,rfl,r',.inl ⟨rfl,aV⟩⟩
    | false=>simp only [Rep];exact⟨a,vs',fp2,rfl,Reps.weak _ _ _ r',.inl ⟨rfl,aV⟩⟩
  refine⟨fun b o e=>?_,by simp [hl],B0 F i (a :: fp2),fun j o d e=>?_,fun j d e=>?_⟩
  . have:b ≠ a:=fun z=>by have:=o2 a ha0;rw [z,this] at e;cases e
    rw [aM this];exact sm _ _ e
  . rw [dF hi] at e
    by_cases hj:j=i
    . subst hj
      rw [if_pos rfl] at e
      cases e
      exact⟨_,hv,by rw [bL];exact new false⟩
    . rw [if_neg hj] at e
      obtain⟨w,h1,h2⟩:=h.ok j o d e
      exact⟨w,h1,by rw [aU hj];exact Rep.keep _ _ _ (kp (o4 j _ hj e a ha0)) h2⟩
  . rw [dF hi] at e
    by_cases hj:j=i
    . subst hj
      rw [if_pos rfl] at e
      cases e
      refine⟨by rw [bL];exact nd,fun b hb=>?_,fun w hw=>?_,fun k s hk ek b hb=>?_⟩
      . rw [bL] at hb
        rcases List.mem_cons.mp hb with z | z
        . rw [z];exact o2 a ha0
        . rcases hn b z with y | y
          . exact o2 b (by rw [hF];exact List.mem_cons_of_mem _ y)
          . exact y.1
      . rw [hv] at hw
        cases hw
        rw [bL];exact new true
      . rw [bL] at hb
        rw [aU hk]
        rw [dF hi,if_neg hk] at ek
        rcases List.mem_cons.mp hb with z | z
        . rw [z];exact o4 k s hk ek a ha0
        . rcases hn b z with y | y
          . exact o4 k s hk ek b (by rw [hF];exact List.mem_cons_of_mem _ y)
          . exact y.2 k s ek
    . rw [if_neg hj] at e
      obtain⟨a1,a2,a3,a4⟩:=h.own j d e
      refine⟨by rw [aU hj];exact a1,fun b hb=>a2 b (by rw [aU hj] at hb;exact hb),fun w hw=>by rw [aU hj];exact Rep.keep _ _ _ (kp (o4 j _ hj e a ha0)) (a3 w hw),fun k s hk ek b hb=>?_⟩
      rw [aU hj] at hb
      rw [dF hi] at ek
      by_cases hki:k=i
      . subst hki
        rw [bL]
        intro z
        rcases List.mem_cons.mp z with z | z
        . exact a4 k _ hk ei b hb (by rw [z];exact ha0)
        . rcases hn b z with y | y
          . exact a4 k _ hk ei b hb (by rw [hF];exact List.mem_cons_of_mem _ y)
          . exact y.2 j _ e hb
      . rw [if_neg hki] at ek
        rw [aU hki]
        exact a4 k s hk ek b hb
theorem M3 {apos cpos:Pos}(hN:X.N[i]? = some x) (hv:Vis X.env.scope x) (he:QE X true [] e f) (hd:(x == ("__debug__" : Str))=false:=by decide) (hcd:(x == ("__classdict__" : Str))=false:=by decide)
    (hst:starEach [e] X.env=(false,eval e X.env) :: starEach [] X.env:=by rfl)
    (hpe:PE X (.Call (.Attribute (.Name x p) "append" apos) [e] [] cpos) (tBM X.K "list" D1 (wJ i) (C6 (tD X.K true [] f) Z1X)))
    (hs:swapsWith (.Call (.Attribute (.Name x p) "append" apos) [e] [] cpos) none pos.line X.env=pure false:=by rfl) :
    QS X (.Expr (.Call (.Attribute (.Name x p) "append" apos) [e] [] cpos) pos) (gQ i f):=.mk (D7 hpe hs) fun E σ H ⟨P,env,I,q⟩=>by
  obtain⟨F,hF⟩:=I.ex
  unfold gQ at q
  split at q
  . rename_i d ds h1 h2
    split at q
    . rename_i hl
      obtain⟨v,hv1,_⟩:=hF.ok i true _ h2
      obtain⟨o1,o2,o3,o4⟩:=hF.own i _ h2
      obtain⟨a,vs,fp',rfl,hFi,ha,hr⟩:=jC (o3 v hv1)
      refine⟨.ref a,hv1,.inl ⟨rfl,vs,SqL.of ha⟩,env,F,d,hF.ok,h1,fun v' H' fp s r c=>?_⟩
      have ha':=s _ _ ha
      refine⟨a,vs,v',rfl,rfl,ha',kI (by rw [hr.length];exact hl),q _ _ ?_⟩
      refine tH (fp2:=fp' ++ fp) (I.same.trans s) I.len (hF.grow s) h2 hv1 hFi ha' ((hr.same s).snoc r) ?_ ?_
      . rw [hFi] at o1
        obtain⟨n1,n2⟩:=List.nodup_cons.mp o1
        refine List.nodup_cons.mpr ⟨fun z=>?_,List.nodup_append.mpr ⟨n2,(c.2 rfl).1,fun b hb b' hb' z=>?_⟩⟩
        . rcases List.mem_append.mp z with z | z
          . exact n1 z
          . have:=(c.2 rfl).2 a z;rw [ha] at this;cases this
        . obtain⟨o,ho⟩:=Reps.dom _ _ _ hr b hb
          have:=(c.2 rfl).2 b' hb'
          rw [<- z,ho] at this;cases this
      . intro b hb
        rcases List.mem_append.mp hb with z | z
        . exact .inl z
        . refine .inr ⟨I.same.free ((c.2 rfl).2 b z),fun j s' ej hz=>?_⟩
          obtain⟨o,ho⟩:=hF.dom ej b hz
          rw [(c.2 rfl).2 b z] at ho;cases ho
    . exact q.elim
  . exact q.elim
noncomputable def wR (i:Nat) (fk f:En->Option D):En->Res:=fun env=>match f env,fk env,env[i]? with
  | some d,some (.int k),some (some (true,.lst ds))=>match ixN ds.length k with
    | some j=>if flats ds=true /\ flat d=true then .next (env.set i (some (true,.lst (ds.set j d)))) else .bad
    | none=>.bad
  | _,_,_=>.bad
theorem Reps.set {K:Frag}{H:Hp}:∀ {ds:List D}{vs:List V}{d:D}{v:V}(j:Nat),Reps K true H ds vs []->Rep K true H d v []->Reps K true H (ds.set j d) (vs.set j v) []
  | [],vs,d,v,j,r,_=>by simp only [Reps] at r;obtain⟨rfl,_⟩:=r;simp only [List.set_nil,Reps];exact⟨trivial,trivial⟩
  | d' :: ds,vs,d,v,0,r,r'=>by
    simp only [Reps] at r
    obtain⟨w,us,f1,f2,rfl,e,h1,h2⟩:=r
    obtain⟨rfl,rfl⟩:=List.append_eq_nil_iff.mp e.symm
    simp only [List.set_cons_zero,Reps]
    exact⟨v,us,[],[],rfl,rfl,r',h2⟩
  | d' :: ds,vs,d,v,j + 1,r,r'=>by
    simp only [Reps] at r
    obtain⟨w,us,f1,f2,rfl,e,h1,h2⟩:=r
    obtain⟨rfl,rfl⟩:=List.append_eq_nil_iff.mp e.symm
    simp only [List.set_cons_succ,Reps]
    exact⟨w,us.set j v,[],[],rfl,rfl,h1,Reps.set j h2 r'⟩
theorem Z27 {k:Expr}{fk:En->Option D}{spos:Pos}(hN:X.N[i]? = some x) (hv:Vis X.env.scope x) (he:QE X m1 rs1 e f) (hk:QE X m2 rs2 k fk) (hd:(x == ("__debug__" : Str))=false:=by decide) (hcd:(x == ("__classdict__" : Str))=false:=by decide)
    (hps:PS X (.Assign [.Subscript (.Name x p) k spos] e pos) (K8 (tD X.K m1 rs1 f) (Z3v (wJ i) (tD X.K m2 rs2 fk) Z1E))) :
    QS X (.Assign [.Subscript (.Name x p) k spos] e pos) (wR i fk f):=.mk hps fun E σ H ⟨P,env,I,q⟩=>by
  obtain⟨F,hF⟩:=I.ex
  unfold wR at q
  split at q
  . rename_i d kk ds h1 h2 h3
    split at q
    . rename_i j hj
      split at q
      . rename_i hfl
        obtain⟨v,hv1,_⟩:=hF.ok i true _ h3
        obtain⟨o1,o2,o3,o4⟩:=hF.own i _ h3
        obtain⟨a,vs,fp',rfl,hFi,ha,hr⟩:=jC (o3 v hv1)
        refine⟨env,F,d,hF.ok,h1,fun v' H1 fp s1 r1 c1=>⟨.ref a,hv1,env,F,_,hF.ok.same s1,h2,fun w H2 f2 s2 r2 c2=>?_⟩⟩
        rw [bJ r2]
        have ha':=(s1.trans s2) _ _ ha
        refine⟨a,vs,kk,j,rfl,rfl,ha',by rw [hr.length];exact hj,q _ _ ?_⟩
        obtain⟨g1,g2⟩:=Reps.flat _ _ _ hfl.1 hr
        obtain⟨g3,g4⟩:=Rep.flat _ _ _ hfl.2 (r1.same s2)
        subst g1
        refine tH (fp2:=[]) (I.same.trans (s1.trans s2)) I.len (hF.grow (s1.trans s2)) h3 hv1 hFi ha' (Reps.set j ((g2 true).same (s1.trans s2)) (g4 true)) (by simp) (fun b hb=>(by cases hb))
      . exact q.elim
    . exact q.elim
  . exact q.elim
end
mutual
theorem Rep.kind {K:Frag}{st:Bool}{H:Hp}:∀ (d:D) (v:V) (fp:List Addr),Rep K st H d v fp->∀ b ∈ fp,(∀ xs,H b ≠ some (.tup xs)) /\ ∀ o u,H b ≠ some (.frz o u)
  | .non,v,fp,h,b,hb=>by simp only [Rep] at h;rw [h.2] at hb;cases hb
  | .bl _,v,fp,h,b,hb=>by simp only [Rep] at h;rw [h.2] at hb;cases hb
  | .int _,v,fp,h,b,hb=>by simp only [Rep] at h;rw [h.2] at hb;cases hb
  | .str _,v,fp,h,b,hb=>by simp only [Rep] at h;rw [h.2] at hb;cases hb
  | .tup ds,v,fp,h,b,hb=>by
    simp only [Rep] at h
    obtain⟨a,vs,e,hs,hr⟩:=h
    exact Reps.kind ds vs fp hr b hb
  | .lst ds,v,fp,h,b,hb=>by
    simp only [Rep] at h
    obtain⟨a,vs,fp',e,hr,hs⟩:=h
    rcases hs with ⟨rfl,hs⟩ | ⟨_,rfl,hs⟩
    . rcases List.mem_cons.mp hb with z | z
      . exact⟨fun xs q=>(by rw [z,hs] at q;cases q),fun o u q=>(by rw [z,hs] at q;cases q)⟩
      . exact Reps.kind ds vs fp' hr b z
    . exact Reps.kind ds vs fp hr b hb
  | .obj C ns ds,v,fp,h,b,hb=>by
    simp only [Rep] at h
    obtain⟨a,dx,vs,fp',e,rfl,hs,hl,hr⟩:=h
    rcases List.mem_cons.mp hb with z | z
    . exact⟨fun xs q=>(by rw [z,hs] at q;cases q),fun o u q=>(by rw [z,hs] at q;cases q)⟩
    . exact Reps.kind ds vs fp' hr b z
  | .dk ks ds,v,fp,h,b,hb=>by
    simp only [Rep] at h
    obtain⟨a,vs,fp',e,rfl,hs,hl,hr⟩:=h
    rcases List.mem_cons.mp hb with z | z
    . exact⟨fun xs q=>(by rw [z,hs] at q;cases q),fun o u q=>(by rw [z,hs] at q;cases q)⟩
    . exact Reps.kind ds vs fp' hr b z
  | .dt ks ds,v,fp,h,b,hb=>by
    simp only [Rep] at h
    obtain⟨a,es,ep,vs,fp',e,hk,hv,ht,hr,hs⟩:=h
    rcases hs with ⟨rfl,hs⟩ | ⟨_,rfl,o,hs⟩
    . rcases List.mem_cons.mp hb with z | z
      . exact⟨fun xs q=>(by rw [z,hs] at q;cases q),fun o u q=>(by rw [z,hs] at q;cases q)⟩
      . exact Reps.kind ds vs fp' hr b z
    . exact Reps.kind ds vs fp hr b hb
  | .exc C,v,fp,h,b,hb=>by
    simp only [Rep] at h
    obtain⟨a,e,rfl,hs⟩:=h
    rw [List.mem_singleton.mp hb]
    exact⟨fun xs q=>(by rw [hs] at q;cases q),fun o u q=>(by rw [hs] at q;cases q)⟩
  | .fn a vs ds,v,fp,h,b,hb=>by
    simp only [Rep] at h
    exact Reps.kind ds vs fp h.2 b hb
theorem Reps.kind {K:Frag}{st:Bool}{H:Hp}:∀ (ds:List D) (vs:List V) (fp:List Addr),Reps K st H ds vs fp->∀ b ∈ fp,(∀ xs,H b ≠ some (.tup xs)) /\ ∀ o u,H b ≠ some (.frz o u)
  | [],vs,fp,h,b,hb=>by simp only [Reps] at h;rw [h.2] at hb;cases hb
  | d :: ds,vs,fp,h,b,hb=>by
    simp only [Reps] at h
    obtain⟨v,r,f1,f2,e1,rfl,h1,h2⟩:=h
    rcases List.mem_append.mp hb with z | z
    . exact Rep.kind d v f1 h1 b z
    . exact Reps.kind ds r f2 h2 b z
end
theorem SInv.lower {K:Frag}{P P' H:Hp}{σ:L2.St}{env:En}(s:Same P P') (h:SInv K P' H σ env):SInv K P H σ env :=
  ⟨s.trans h.same,h.len,let ⟨F,hF⟩:=h.ex;⟨F,hF.ok,fun i d e=>let ⟨a,b,c,q⟩:=hF.own i d e;⟨a,fun x hx=>s.free (b x hx),c,q⟩⟩⟩
theorem K9 {K:Frag}{P H:Hp}{σ:L2.St}{env:En}{F:Nat->List Addr}{d:D}{v:V}{fp:List Addr}(i:Nat) (hl:σ.length=env.length) (h:EnvS K P H σ env F) (r:Rep K false H d v fp)
    (fr:∀ j d',env[j]? = some (some (true,d'))->∀ b ∈ F j,b ∉ fp):EnvS K P H (σ.set i (some v)) (env.set i (some (false,d))) (B0 F i fp):=by
  refine⟨?_,?_⟩
  . intro j o d' e
    by_cases hi:i < env.length
    . rw [dF hi] at e
      by_cases hj:j=i
      . subst hj
        rw [if_pos rfl] at e
        cases e
        exact⟨v,List.getElem?_set_self (by omega),by rw [bL];exact r⟩
      . rw [if_neg hj] at e
        obtain⟨w,h1,h2⟩:=h.ok j o d' e
        exact⟨w,by rw [List.getElem?_set_ne (Ne.symm hj)];exact h1,by rw [aU hj];exact h2⟩
    . rw [List.set_eq_of_length_le (by omega)] at e
      have hj:j ≠ i:=fun z=>by rw [z,List.getElem?_eq_none (by omega)] at e;cases e
      obtain⟨w,h1,h2⟩:=h.ok j o d' e
      exact⟨w,by rw [List.getElem?_set_ne (Ne.symm hj)];exact h1,by rw [aU hj];exact h2⟩
  . intro j d' e
    have hji:j ≠ i:=by
      rintro rfl
      by_cases hi:j < env.length
      . rw [dF hi,if_pos rfl] at e;cases e
      . rw [List.set_eq_of_length_le (by omega),List.getElem?_eq_none (by omega)] at e;cases e
    rw [List.getElem?_set_ne (Ne.symm hji)] at e
    obtain⟨a1,a2,a3,a4⟩:=h.own j d' e
    refine⟨by rw [aU hji];exact a1,fun b hb=>a2 b (by rw [aU hji] at hb;exact hb),fun w hw=>?_,fun k s' hk ek b hb=>?_⟩
    . rw [List.getElem?_set_ne (Ne.symm hji)] at hw
      rw [aU hji];exact a3 w hw
    . rw [aU hji] at hb
      by_cases hki:k=i
      . subst hki
        rw [bL]
        exact fr j d' e b hb
      . rw [List.getElem?_set_ne (Ne.symm hki)] at ek
        rw [aU hki]
        exact a4 k s' hk ek b hb
noncomputable def tDG (K:Frag) (t:D->En->Option En):TG:=fun v σ H Q=>∃ P env F d fp env',Same P H /\ σ.length=env.length /\ EnvS K P H σ env F /\ Rep K false H d v fp /\ (∀ j d',env[j]? = some (some (true,d'))->∀ b ∈ F j,b ∉ fp) /\ t d env=some env' /\
  ∀ σ',SInv K P H σ' env'->Q σ' H
noncomputable def QG (X:Cx) (tg:Expr) (t:D->En->Option En):Prop:=PG X tg (tDG X.K t)
theorem QG.mk {X:Cx}{tg:Expr}{t:D->En->Option En}{g:TG}(h:PG X tg g) (hi:∀ v σ H Q,tDG X.K t v σ H Q->g v σ H Q):QG X tg t:=fun pins s σ H v u Q I r q=>h pins s σ H v u Q I r (hi v σ H Q q)
noncomputable def gtN (i:Nat):D->En->Option En:=fun d env=>some (env.set i (some (false,d)))
noncomputable def iH:List Nat->List D->En->Option En
  | [],[],env=>some env
  | i :: is,d :: ds,env=>iH is ds (env.set i (some (false,d)))
  | _,_,_=>none
noncomputable def gtT (is:List Nat):D->En->Option En:=fun d env=>match d with
  | .tup ds=>iH is ds env
  | _=>none
noncomputable def A9:List Nat->TGs
  | []=>Z3w
  | i :: is=>Z1J (uE i) (A9 is)
theorem rB:∀ {is:List Nat}{ds:List D}{env env':En},iH is ds env=some env'->is.length=ds.length
  | [],[],_,_,_=>rfl
  | i :: is,d :: ds,env,env',h=>by simp only [iH] at h;simp [rB h]
  | [],_ :: _,_,_,h=>by simp [iH] at h
  | _ :: _,[],_,_,h=>by simp [iH] at h
theorem rO {K:Frag}{P H:Hp}{Q:L2.St->Hp->Prop}:∀ {is:List Nat}{ds:List D}{vs:List V}{fp:List Addr}{σ:L2.St}{env env':En}{F:Nat->List Addr},Same P H->σ.length=env.length->EnvS K P H σ env F->Reps K false H ds vs fp ->
    (∀ j d',env[j]? = some (some (true,d'))->∀ b ∈ F j,b ∉ fp)->iH is ds env=some env'->(∀ σ',SInv K P H σ' env'->Q σ' H)->A9 is vs σ H Q
  | [],[],vs,fp,σ,env,env',F,sm,hl,h,r,fr,e,q=>by
    simp only [Reps] at r
    simp only [iH] at e
    cases e
    exact⟨r.1,q σ ⟨sm,hl,F,h⟩⟩
  | i :: is,d :: ds,vs,fp,σ,env,env',F,sm,hl,h,r,fr,e,q=>by
    simp only [Reps] at r
    obtain⟨v,us,f1,f2,rfl,rfl,r1,r2⟩:=r
    simp only [iH] at e
    refine⟨v,us,rfl,?_⟩
    have h':=K9 i hl h r1 fun j d' ej b hb z=>fr j d' ej b hb (List.mem_append_left _ z)
    refine rO (is:=is) (ds:=ds) sm (by simp [hl]) h' r2 (fun j d' ej b hb z=>?_) e q
    have hji:j ≠ i:=by
      rintro rfl
      by_cases hi:j < env.length
      . rw [dF hi,if_pos rfl] at ej;cases ej
      . rw [List.set_eq_of_length_le (by omega),List.getElem?_eq_none (by omega)] at ej;cases ej
    rw [List.getElem?_set_ne (Ne.symm hji)] at ej
    rw [aU hji] at hb
    exact fr j d' ej b hb (List.mem_append_right _ z)
  | [],_ :: _,_,_,_,_,_,_,_,_,_,_,_,h,_=>by simp [iH] at h
  | _ :: _,[],_,_,_,_,_,_,_,_,_,_,_,h,_=>by simp [iH] at h
section
variable {X:Cx}{m m' m1 m2:Bool}{rs rs' rs1 rs2:List Nat}{e a b c iter tg:Expr}{es rest:List Expr}{f fa fb fc:En->Option D}{c':En->Option Bool}{pos p pos':Pos}{st:Stmt}{sts body:List Stmt}{g h:En->Res}{i:Nat}{x:Str}{src:En->Option (List D)}{t:D->En->Option En}
theorem cY (hN:X.N.Nodup) (hi:X.N[i]? = some x) (hx:Loc X.env.scope x) (hf:X.fn x=true \/ X.env.scope.names.lookup x=some .local:=by first | exact .inl rfl | exact .inr rfl | assumption):QG X (.Name x pos) (gtN i) :=
  .mk (dU hN hi hx hf) fun v σ H Q ⟨P,env,F,d,fp,env',sm,hl,hF,r,fr,e,q⟩=>by
    cases e
    exact q _ (wK i sm hl hF (Same.refl H) r fr)
theorem oJ {k:Nat}{is:List Nat}{n:Nat}(hc:X.calm=true) (h:PGs X es (A9 is)) (hnl:is.length=n) (hn:(assignEach es X.env).length=n:=by rfl) (hst:(assignEach es X.env).findIdx? (·.1)=none:=by rfl):QG X (.Tuple es k pos) (gtT is) :=
  .mk (Z2j hc h hn hst) fun v σ H Q ⟨P,env,F,d,fp,env',sm,hl,hF,r,fr,e,q⟩=>by
    cases d with
    | tup ds =>
      simp only [Rep] at r
      obtain⟨a,vs,rfl,hsq,hr⟩:=r
      have e':iH is ds env=some env':=e
      exact⟨a,vs,rfl,hsq,by rw [hr.length,<- rB e',hnl],rO sm hl hF hr fr e' q⟩
    | _=>cases e
noncomputable def L8 (rs:List Nat) (t:D->En->Option En) (f:En->Option D):En->Res:=fun env=>match f env with
  | some d=>match t d (fz rs env) with
    | some env'=>.next env'
    | none=>.bad
  | none=>.bad
theorem Z25 (he:QE X m rs e f) (hg:QG X tg t) (hs:swapsWithSole [tg] e pos.line X.env=pure false:=by rfl) (hw:swappedStores [tg] e X.env=pure none:=by rfl)
    (hps:PS X (.Assign [tg] e pos) (K8 (tD X.K m rs f) (tDG X.K t))):QS X (.Assign [tg] e pos) (L8 rs t f):=.mk hps fun E σ H ⟨P,env,I,q⟩=>by
  obtain⟨F,hF⟩:=I.ex
  unfold L8 at q
  split at q
  . rename_i d h1
    split at q
    . rename_i env' h2
      refine⟨env,nrm env F,d,hF.nrm.ok,h1,fun v H' fp s r c=>⟨P,fz rs env,nrm env F,d,fp,env',I.same.trans s,by rw [vM];exact I.len,(hF.nrm.fz rs).grow s,Rep.weak _ _ _ r,rA hF c,h2,fun σ' I'=>q σ' H' I'⟩⟩
    . exact q.elim
  . exact q.elim
noncomputable def mG (t:D->En->Option En) (g:En->Res):List D->En->Res
  | [],env=>.next env
  | d :: r,env=>match t d env with
    | none=>.bad
    | some env1=>match g env1 with
      | .next e=>mG t g r e
      | .cont e=>mG t g r e
      | .brk e=>.next e
      | .ret d=>.ret d
      | .bad=>.bad
noncomputable def dZ (rs:List Nat) (src:En->Option (List D)) (t:D->En->Option En) (g:En->Res):En->Res:=fun env=>match src env with
  | some ds=>mG t g ds (fz rs env)
  | none=>.bad
open Classical in
theorem cX (hc:X.calm=true) (hp:PassesOwn (model X.prog X.w) X.A X.env X.xe) (hi:QI X tg rs iter src) (hg:QG X tg t) (hb:QSs X body g) (hs:∀ x,foldedSetIterable iter X.env x=pure x:=by intro _;rfl) :
    QS X (.For tg iter body [] pos) (dZ rs src t g):=.mk (Z2g hp hc hi hg hb hs) fun E σ H ⟨P,env,I,q⟩=>by
  obtain⟨F,hF⟩:=I.ex
  unfold dZ at q
  split at q
  . rename_i ds h1
    refine⟨env,nrm env F,ds,hF.nrm.ok,h1,fun J H1 fp s1 gv dm cd=>?_⟩
    have ap:=rA hF cd
    let O:Addr->Prop:=fun b=>∃ j d,(fz rs env)[j]? = some (some (true,d)) /\ b ∈ nrm env F j
    let P':Hp:=fun b=>if O b then none else H1 b
    have hS0:EnvS X.K P H1 σ (fz rs env) (nrm env F):=(hF.nrm.fz rs).grow s1
    have okind:∀ b,O b->(∀ xs,H1 b ≠ some (.tup xs)) /\ ∀ o u,H1 b ≠ some (.frz o u):=fun b ⟨j,d,e,hb⟩=>by
      obtain⟨v,hv,r⟩:=hS0.ok j true d e
      exact Rep.kind _ _ _ r b hb
    have pn:∀ {b:Addr},¬ O b->P' b=H1 b:=fun hn=>if_neg hn
    have po:∀ {b:Addr},O b->P' b=none:=fun hO=>if_pos hO
    have sP1:Same P' H1:=fun b o e=>by
      by_cases hO:O b
      . rw [po hO] at e;cases e
      . rw [pn hO] at e;exact e
    have sP:Same P P':=fun b o e=>by
      have hO:¬ O b:=fun⟨j,d,ej,hb⟩=>by
        have:=(hS0.own j d ej).2.1 b hb
        rw [this] at e;cases e
      rw [pn hO];exact s1 _ _ (I.same _ _ e)
    have fpP:∀ b ∈ fp,¬ O b:=fun b hb ⟨j,d,ej,hb'⟩=>ap j d ej b hb' hb
    have kp:∀ {H2:Hp},Same P' H2->Kp fp H1 H2:=fun s2=>⟨fun b hb o e=>s2 _ _ (by rw [pn (fpP b hb)];exact e),
      fun b xs e=>s2 _ _ (by rw [pn (fun hO=>(okind b hO).1 _ e)];exact e),
      fun b o u e=>s2 _ _ (by rw [pn (fun hO=>(okind b hO).2 _ _ e)];exact e)⟩
    refine⟨fun i k σ' H'=>i <= ds.length /\ k=ds.length - i /\ ∃ env',SInv X.K P' H' σ' env' /\ Z0m X.K P E (mG t g (ds.drop i) env'),
      ⟨ds.length,Nat.zero_le _,rfl,fz rs env,⟨sP1,by rw [vM];exact I.len,nrm env F,hS0.ok,fun j d e=>?_⟩,by simpa using q⟩,?_⟩
    . obtain⟨a1,a2,a3,a4⟩:=hS0.own j d e
      exact⟨a1,fun b hb=>po ⟨j,d,e,hb⟩,a3,a4⟩
    . rintro i k σ' H' ⟨hi,hk,env',I',q'⟩
      have gi:=gv H' (kp I'.same) i
      by_cases hlt:i < ds.length
      . right
        have hd:ds[i]? = some ds[i]:=List.getElem?_eq_getElem hlt
        obtain⟨go,hy⟩:=gi.1 _ hd
        have edrop:ds.drop i=ds[i] :: ds.drop (i + 1):=List.drop_eq_getElem_cons hlt
        rw [edrop] at q'
        refine⟨go,fun σ2 H2=>∃ env2,SInv X.K P' H2 σ2 env2 /\ Z0m X.K P E (mG t g (ds.drop (i + 1)) env2),fun σ2 H2 ⟨env2,I2,q2⟩=>⟨ds.length - (i + 1),by omega,hlt,rfl,env2,I2,q2⟩,fun x H2 y2=>?_⟩
        obtain⟨sm2,f2,r2,sub2⟩:=hy x H2 y2
        unfold mG at q'
        cases ht:t ds[i] env' with
        | none=>rw [ht] at q';exact q'.elim
        | some env1 =>
          rw [ht] at q'
          simp only at q'
          have I2:=I'.grow sm2
          obtain⟨F2,hF2⟩:=I2.ex
          refine⟨P',env',F2,_,f2,env1,I2.same,I2.len,hF2,r2,fun j d' ej b hb z=>?_,ht,fun σ3 I3=>⟨P',env1,I3,?_⟩⟩
          . have h5:=(hF2.own j d' ej).2.1 b hb
            rw [pn (fpP b (sub2 b z))] at h5
            obtain⟨o,ho⟩:=dm b (sub2 b z)
            rw [h5] at ho;cases ho
          . cases hg:g env1 with
            | next e2=>rw [hg] at q';exact fun σ4 H4 I4=>⟨e2,I4,q'⟩
            | cont e2=>rw [hg] at q';exact fun σ4 H4 I4=>⟨e2,I4,q'⟩
            | brk e2=>rw [hg] at q';exact fun σ4 H4 I4=>q' σ4 H4 (I4.lower sP)
            | ret d=>rw [hg] at q';exact fun v H4 fp4 s4 r4 n4 nd4=>q' v H4 fp4 (sP.trans s4) r4 (fun b hb=>sP.free (n4 b hb)) nd4
            | bad=>rw [hg] at q';exact q'.elim
      . left
        have hi':i=ds.length:=by omega
        rw [hi',List.drop_length] at q'
        exact⟨gi.2 (by omega),q' σ' H' (I'.lower sP)⟩
  . exact q.elim
end
noncomputable def enStart (L:Nat) (ds:List D):En:=ds.map (fun d=>some (false,d)) ++ List.replicate (L - ds.length) none
noncomputable def runF (L:Nat) (g:En->Res):List D->Option D:=fun ds=>match g (enStart L ds) with
  | .ret d=>some d
  | .next _=>some .non
  | _=>none
theorem uS {K:Frag}{H:Hp}{st:Bool}:∀ {ds:List D}{vs:List V}{fp:List Addr},Reps K st H ds vs fp->∃ F:Nat->List Addr,∀ i d,ds[i]? = some d->∃ v,vs[i]? = some v /\ Rep K st H d v (F i)
  | [],vs,fp,_=>⟨fun _=>[],fun i d e=>by simp at e⟩
  | d :: ds,vs,fp,r=>by
    simp only [Reps] at r
    obtain⟨v,us,f1,f2,rfl,rfl,r1,r2⟩:=r
    obtain⟨F,hF⟩:=uS r2
    refine⟨fun i=>match i with | 0=>f1 | i + 1=>F i,fun i d' e=>?_⟩
    cases i with
    | zero=>simp at e;subst e;exact⟨v,rfl,r1⟩
    | succ i =>
      obtain⟨w,h1,h2⟩:=hF i d' (by simpa using e)
      exact⟨w,by simpa using h1,h2⟩
theorem nA {K:Frag}{H:Hp}{N:List Str}{ds:List D}{vs:List V}{fp:List Addr}(r:Reps K false H ds vs fp):SInv K H H (L2.start N vs) (enStart N.length ds):=by
  obtain⟨F,hF⟩:=uS r
  refine⟨Same.refl H,by simp [L2.start,enStart,r.length],F,fun i o d e=>?_,fun i d e=>?_⟩
  . unfold enStart at e
    by_cases hi:i < ds.length
    . rw [List.getElem?_append_left (by simpa using hi),List.getElem?_map] at e
      cases hd:ds[i]? with
      | none=>rw [hd] at e;cases e
      | some d' =>
        rw [hd] at e
        cases e
        obtain⟨v,h1,h2⟩:=hF i d hd
        refine⟨v,?_,h2⟩
        unfold L2.start
        rw [List.getElem?_append_left (by rw [List.length_map,r.length];exact hi),List.getElem?_map,h1]
        rfl
    . rw [List.getElem?_append_right (by simpa using hi),List.getElem?_replicate] at e
      split at e <;> cases e
  . unfold enStart at e
    by_cases hi:i < ds.length
    . rw [List.getElem?_append_left (by simpa using hi),List.getElem?_map] at e
      cases hd:ds[i]? with
      | none=>rw [hd] at e;cases e
      | some d'=>rw [hd] at e;cases e
    . rw [List.getElem?_append_right (by simpa using hi),List.getElem?_replicate] at e
      split at e <;> cases e
structure FunD (K:Frag) (x qual:Str) (st:Stmt) (f:Addr) (fd:FuncData):Prop where
  ex:∃ (oc:Value) (od:Option Addr) (dV kV doc pm:Value) (an:Option Addr) (cdv ct:Value) (osl:Array (Option Value)),
    fd=fnOf x qual (aJ st) (aI st) (aE st) dV kV doc pm an cdv ct /\ K.lookup f=some ⟨oc,od,.func fd,osl⟩ /\ codeIn K cdv qual=true
  kp:keepIn K (.ref f)=true
theorem bE {K:Frag}{x qual:Str}{st:Stmt}{f:Addr}{oc:Value}{od an:Option Addr}{osl:Array (Option Value)}{dV kV doc pm cdv ct:Value}(l:K.lookup f=some ⟨oc,od,.func (fnOf x qual (aJ st) (aI st) (aE st) dV kV doc pm an cdv ct),osl⟩)
    (c:codeIn K cdv qual=true) (k:keepIn K (.ref f)=true):FunD K x qual st f (fnOf x qual (aJ st) (aI st) (aE st) dV kV doc pm an cdv ct) :=
  ⟨⟨oc,od,dV,kV,doc,pm,an,cdv,ct,osl,rfl,l,c⟩,k⟩
theorem FunD.ok {P:Program}{w:World}{K:Frag}{mg:Str->Option Value}{base:Heap}{x qual:Str}{st:Stmt}{f:Addr}{fd:FuncData}{N ps:List Str}{k n L:Nat}{g:En->Res}(F:FunD K x qual st f fd) (S:aT N ps (aE st)) (hn:ps.length=n) (hL:N.length=L)
    (hb:∀ (cdv:Value) (A:Around) (outer:List Env) (s:Shared) (H:Hp) (E:XK),Room k (A.deeper (envOfC qual (aE st) s.heap.objs.size f cdv))->QSs (pG CX0 P w K mg base N qual (aE st) f cdv A outer s H E).nox (aI st) g) :
    FnOk P w K mg base CX0 (k + 1) f fd ps (spD K n (runF L g)):=by
  subst hn hL
  obtain⟨oc,od,dV,kV,doc,pm,an,cdv,ct,osl,rfl,lk,hcd⟩:=F.ex
  refine J1 lk hcd S (fun vs H Q E h=>uQ h) fun A outer s H vs Q E hr hsp=>?_
  obtain⟨ds,d,fp,h1,h2,h3,q⟩:=hsp
  have hq:=hb cdv A outer s H E hr
  refine⟨_,PSs.nox hq,H,enStart N.length ds,nA h2,?_⟩
  unfold runF at h3
  cases hg:g (enStart N.length ds) with
  | ret d' =>
    rw [hg] at h3
    cases h3
    exact fun v H' fp' s r fr nd=>q v H' fp' s r fr nd
  | next env' =>
    rw [hg] at h3
    cases h3
    exact fun σ' H' I'=>q .non H' [] I'.same oR (fun b hb=>(by cases hb)) List.nodup_nil
  | brk _=>rw [hg] at h3;cases h3
  | cont _=>rw [hg] at h3;cases h3
  | bad=>rw [hg] at h3;cases h3
open PySem PySem.Spec PyProof.Rows L2 PySem.SeqAt
noncomputable def eqL (f:D->D->Option Bool):List D->List D->Option Bool
  | x :: xs,y :: ys=>match f x y,eqL f xs ys with
    | some a,some b=>some (a && b)
    | _,_=>none
  | _,_=>some true
noncomputable def eqN:Nat->D->D->Option Bool
  | 0,_,_=>none
  | _ + 1,.non,.non=>some true
  | _ + 1,.bl a,.bl b=>some (a == b)
  | _ + 1,.int a,.int b=>some (a == b)
  | _ + 1,.str a,.str b=>some (a == b)
  | _ + 1,.non,.int _=>some false
  | _ + 1,.non,.str _=>some false
  | _ + 1,.int _,.non=>some false
  | _ + 1,.str _,.non=>some false
  | _ + 1,.int _,.str _=>some false
  | _ + 1,.str _,.int _=>some false
  | n + 1,.tup xs,.tup ys=>(eqL (eqN n) xs ys).map (· && xs.length == ys.length)
  | _ + 1,.tup _,.non=>some false
  | _ + 1,.non,.tup _=>some false
  | n + 1,.lst xs,.lst ys=>if xs.length=ys.length then eqL (eqN n) xs ys else some false
  | _ + 1,.lst _,.non=>some false
  | _ + 1,.non,.lst _=>some false
  | _,_,_=>none
theorem sF {f:D->D->Option Bool}:∀ {xs ys:List D}{k:Bool},eqL f xs ys=some k->∃ e:Nat->Bool,(∀ j x y,xs[j]? = some x->ys[j]? = some y->f x y=some (e j)) /\ (List.range (min xs.length ys.length)).all e=k
  | [],ys,k,h=>by simp only [eqL] at h;cases h;exact⟨fun _=>true,fun j x y h=>by simp at h,by simp⟩
  | x :: xs,[],k,h=>by simp only [eqL] at h;cases h;exact⟨fun _=>true,fun j x y _ h=>by simp at h,by simp⟩
  | x :: xs,y :: ys,k,h=>by
    simp only [eqL] at h
    split at h
    . rename_i a b h1 h2
      cases h
      obtain⟨e,g1,g2⟩:=sF h2
      refine⟨fun j=>match j with | 0=>a | j + 1=>e j,fun j x' y' e1 e2=>?_,?_⟩
      . cases j with
        | zero=>simp at e1 e2;subst e1 e2;exact h1
        | succ j=>exact g1 j x' y' (by simpa using e1) (by simpa using e2)
      . simp only [List.length_cons,Nat.succ_min_succ,List.range_succ_eq_map,List.all_cons,List.all_map]
        rw [<- g2]
        congr 1
    . cases h
section
variable {X:Cx}{pins:List (Addr × Obj)}{σ:L2.St}{H:Hp}{s:Shared}
theorem C9 {st1 st2:Bool}(I:Inv X pins σ H s):∀ (n:Nat) (a b:D) (v:V) (f1 f2:List Addr) (k:Bool),Rep X.K st1 H a v f1->Rep X.K st2 H b v f2->eqN n a b=some k->k=true:=by
  intro n
  induction n with
  | zero=>intro a b v f1 f2 k _ _ e;simp [eqN] at e
  | succ n ih =>
    have seq:∀ (xs ys:List D) (vs:List V) (f1 f2:List Addr) (k:Bool),Reps X.K st1 H xs vs f1->Reps X.K st2 H ys vs f2->eqL (eqN n) xs ys=some k->k=true:=by
      intro xs
      induction xs with
      | nil=>intro ys vs f1 f2 k _ _ e;simp only [eqL] at e;cases e;rfl
      | cons x xs ihx =>
        intro ys vs f1 f2 k r1 r2 e
        cases ys with
        | nil=>simp only [eqL] at e;cases e;rfl
        | cons y ys =>
          simp only [Reps] at r1 r2
          obtain⟨v,us,g1,g2,rfl,_,a1,a2⟩:=r1
          obtain⟨v',us',g3,g4,e',_,b1,b2⟩:=r2
          cases e'
          simp only [eqL] at e
          split at e
          . rename_i c d h1 h2
            cases e
            rw [ih _ _ _ _ _ _ a1 b1 h1,ihx _ _ _ _ _ a2 b2 h2]
            rfl
          . cases e
    intro a b v f1 f2 k ra rb e
    cases a <;> cases b <;> simp only [eqN,Rep] at ra rb e <;> try (cases e;done)
    all_goals first
      | (cases e;rfl)
      | (obtain⟨rfl,_⟩:=ra;obtain⟨h,_⟩:=rb;cases h;cases e;simp;done)
      | (obtain⟨rfl,_⟩:=ra;obtain⟨h,_⟩:=rb;cases h;done)
      | (obtain⟨rfl,_⟩:=ra;obtain⟨_,_,h,_⟩:=rb;cases h;done)
      | (obtain⟨rfl,_⟩:=ra;obtain⟨_,_,_,h,_⟩:=rb;cases h;done)
      | (obtain⟨rfl,_⟩:=rb;obtain⟨_,_,h,_⟩:=ra;cases h;done)
      | (obtain⟨rfl,_⟩:=rb;obtain⟨_,_,_,h,_⟩:=ra;cases h;done)
      | skip
    . -- tuples
      rename_i xs ys
      obtain⟨a,vs,rfl,hs,hr⟩:=ra
      obtain⟨a',vs',e',hs',hr'⟩:=rb
      cases e'
      obtain rfl:=I.tuple_inj hs hs'
      cases hq:eqL (eqN n) xs ys with
      | none=>rw [hq] at e;cases e
      | some c =>
        rw [hq] at e
        cases e
        have:=seq _ _ _ _ _ _ hr hr' hq
        subst this
        have l1:=hr.length
        have l2:=hr'.length
        simp [<- l1,<- l2]
    . rename_i xs ys
      have hra:Rep X.K st1 H (.lst xs) v f1:=by simp only [Rep];exact ra
      have hrb:Rep X.K st2 H (.lst ys) v f2:=by simp only [Rep];exact rb
      obtain⟨a,vs,fp',rfl,hs,hr,_⟩:=bP hra
      obtain⟨a',vs',fp2,e',hs',hr',_⟩:=bP hrb
      cases e'
      obtain rfl:=I.list_inj hs hs'
      have l1:=hr.length
      have l2:=hr'.length
      rw [if_pos (by rw [<- l1,<- l2])] at e
      exact seq _ _ _ _ _ _ hr hr' e
end
section
variable {X:Cx}{pins:List (Addr × Obj)}{σ:L2.St}{H:Hp}{s:Shared}
theorem pD (A:Around):A.in1.units=A.units + 1:=rfl
theorem Z06 {st1 st2:Bool}(I:Inv X pins σ H s):∀ (n:Nat) (A:Around) (a b:D) (v u:V) (vv uu:Value) (f1 f2:List Addr) (k:Bool),A.units + n <= cLine->Rep X.K st1 H a v f1->Rep X.K st2 H b u f2->RelV v vv->RelV u uu->eqN n a b=some k ->
    EqAt A s vv uu k /\ RcAt A s vv uu k /\ RcNeAt A s vv uu (!k):=by
  intro n
  induction n with
  | zero=>intro A a b v u vv uu f1 f2 k _ _ _ _ _ e;simp [eqN] at e
  | succ n ih =>
    intro A a b v u vv uu f1 f2 k hu ra rb rv ru e
    have hu0:A.units < cLine:=by omega
    have seqs:∀ {xs ys:List D}{vs us:List V}{its its2:List Value}{g1 g2:List Addr}{ee:Nat->Bool},Reps X.K st1 H xs vs g1->Reps X.K st2 H ys us g2->Vals vs its->Vals us its2->(∀ j x y,xs[j]? = some x->ys[j]? = some y->eqN n x y=some (ee j)) ->
        ∀ j (h1:j < its.toArray.size) (h2:j < its2.toArray.size),EqAt A.in1 s its.toArray[j] its2.toArray[j] (ee j):=by
      intro xs ys vs us its its2 g1 g2 ee r1 r2 w1 w2 he j h1 h2
      have l1:=r1.length
      have l2:=r2.length
      have l3:=w1.length
      have l4:=w2.length
      have j1:j < xs.length:=by simp at h1;omega
      have j2:j < ys.length:=by simp at h2;omega
      obtain⟨v1,_,a1,a2,_⟩:=r1.get (List.getElem?_eq_getElem j1)
      obtain⟨v2,_,b1,b2,_⟩:=r2.get (List.getElem?_eq_getElem j2)
      obtain⟨u1,c1,c2⟩:=w1.get a1
      obtain⟨u2,d1,d2⟩:=w2.get b1
      have e1:its.toArray[j]=u1:=by have:=List.getElem?_eq_some_iff.mp c1;obtain⟨_,z⟩:=this;simpa using z
      have e2:its2.toArray[j]=u2:=by have:=List.getElem?_eq_some_iff.mp d1;obtain⟨_,z⟩:=this;simpa using z
      rw [e1,e2]
      exact (ih A.in1 _ _ _ _ _ _ _ _ _ (by rw [pD];omega) a2 b2 c2 d2 (he j _ _ (List.getElem?_eq_getElem j1) (List.getElem?_eq_getElem j2))).1
    cases a with
    | non =>
      have hv:v=.non:=fU ra
      subst hv
      cases (show vv=Value.none from rv)
      cases b with
      | non =>
        cases fU rb
        cases (show uu=Value.none from ru)
        simp only [eqN] at e;cases e
        exact⟨EqAt.same _,RcAt.none_none,RcNeAt.none_none⟩
      | int i =>
        cases bJ rb
        obtain⟨t,rfl⟩:=(show ∃ t,uu=Value.int i t from ru)
        simp only [eqN] at e;cases e
        exact⟨EqAt.none_int _ _,RcAt.none_int _ _,RcNeAt.none_int _ _⟩
      | str i =>
        cases eY rb
        obtain⟨t,rfl⟩:=(show ∃ t,uu=Value.str i t from ru)
        simp only [eqN] at e;cases e
        exact⟨EqAt.none_str _ _,RcAt.none_str _ _,RcNeAt.none_str _ _⟩
      | tup ys =>
        simp only [Rep] at rb
        obtain⟨p,us,rfl,hs,hr⟩:=rb
        cases (show uu=Value.ref p from ru)
        obtain⟨its,w1,pl,_⟩:=I.tuple hs
        simp only [eqN] at e;cases e
        exact⟨EqAt.none_tuple pl hu0,RcAt.none_tuple pl hu0,RcNeAt.none_tuple pl hu0⟩
      | lst ys =>
        obtain⟨p,us,_,rfl,hs,hr,_⟩:=bP rb
        cases (show uu=Value.ref p from ru)
        obtain⟨its,w1,pl,_⟩:=I.list hs
        simp only [eqN] at e;cases e
        exact⟨EqAt.none_list pl.isList hu0,RcAt.none_list pl.isList hu0,RcNeAt.none_list pl.isList hu0⟩
      | _=>simp only [eqN] at e;cases e
    | bl x =>
      cases eU ra
      cases (show vv=Value.bool x from rv)
      cases b with
      | bl y =>
        cases eU rb
        cases (show uu=Value.bool y from ru)
        simp only [eqN] at e;cases e
        exact⟨EqAt.bool_bool _ _,RcAt.bool_bool _ _,RcNeAt.bool_bool _ _⟩
      | _=>simp only [eqN] at e;cases e
    | int x =>
      cases bJ ra
      obtain⟨t,rfl⟩:=(show ∃ t,vv=Value.int x t from rv)
      cases b with
      | int y =>
        cases bJ rb
        obtain⟨t',rfl⟩:=(show ∃ t,uu=Value.int y t from ru)
        simp only [eqN] at e;cases e
        exact⟨EqAt.int_int _ _ _ _,RcAt.int_int _ _ _ _,RcNeAt.int_int _ _ _ _⟩
      | non =>
        cases fU rb
        cases (show uu=Value.none from ru)
        simp only [eqN] at e;cases e
        exact⟨EqAt.int_none _ _,RcAt.int_none _ _,RcNeAt.int_none _ _⟩
      | str y =>
        cases eY rb
        obtain⟨t',rfl⟩:=(show ∃ t,uu=Value.str y t from ru)
        simp only [eqN] at e;cases e
        exact⟨EqAt.int_str _ _ _ _,RcAt.int_str _ _ _ _,RcNeAt.int_str _ _ _ _⟩
      | _=>simp only [eqN] at e;cases e
    | str x =>
      cases eY ra
      obtain⟨t,rfl⟩:=(show ∃ t,vv=Value.str x t from rv)
      cases b with
      | int y =>
        cases bJ rb
        obtain⟨t',rfl⟩:=(show ∃ t,uu=Value.int y t from ru)
        simp only [eqN] at e;cases e
        exact⟨EqAt.str_int _ _ _ _,RcAt.str_int _ _ _ _,RcNeAt.str_int _ _ _ _⟩
      | non =>
        cases fU rb
        cases (show uu=Value.none from ru)
        simp only [eqN] at e;cases e
        exact⟨EqAt.str_none _ _,RcAt.str_none _ _,RcNeAt.str_none _ _⟩
      | str y =>
        cases eY rb
        obtain⟨t',rfl⟩:=(show ∃ t,uu=Value.str y t from ru)
        simp only [eqN] at e;cases e
        exact⟨EqAt.str_str _ _ _ _,RcAt.str_str _ _ _ _,RcNeAt.str_str _ _ _ _⟩
      | _=>simp only [eqN] at e;cases e
    | tup xs =>
      have ra':=ra
      simp only [Rep] at ra
      obtain⟨p,vs,rfl,hs,hr⟩:=ra
      cases (show vv=Value.ref p from rv)
      obtain⟨its,w1,pl,_⟩:=I.tuple hs
      cases b with
      | non =>
        cases fU rb
        cases (show uu=Value.none from ru)
        simp only [eqN] at e;cases e
        exact⟨EqAt.tuple_none pl hu0,RcAt.tuple_none pl hu0,RcNeAt.tuple_none pl hu0⟩
      | tup ys =>
        have rb':=rb
        simp only [Rep] at rb
        obtain⟨p',us,rfl,hs',hr'⟩:=rb
        cases (show uu=Value.ref p' from ru)
        obtain⟨its2,w2,pl2,_⟩:=I.tuple hs'
        have e0:=e
        simp only [eqN] at e
        cases hq:eqL (eqN n) xs ys with
        | none=>rw [hq] at e;cases e
        | some c =>
          rw [hq] at e
          cases e
          obtain⟨ee,g1,g2⟩:=sF hq
          have l1:=hr.length
          have l2:=hr'.length
          have l3:=w1.length
          have l4:=w2.length
          have es:(its.toArray.size == its2.toArray.size)=(xs.length == ys.length):=by simp [<- l1,<- l2,l3,l4]
          have em:min its.toArray.size its2.toArray.size=min xs.length ys.length:=by simp [<- l1,<- l2,l3,l4]
          have rc:=RcAt.tuples pl pl2 hu0 (seqs hr hr' w1 w2 g1)
          have rn:=RcNeAt.tuples pl pl2 hu0 (seqs hr hr' w1 w2 g1)
          rw [es,em,g2] at rc rn
          refine⟨?_,rc,rn⟩
          by_cases hp:p=p'
          . subst hp
            have:=C9 I _ _ _ _ _ _ _ ra' rb' e0
            rw [this]
            exact EqAt.same _
          . exact EqAt.of_refs hp rc
      | _=>simp only [eqN] at e;cases e
    | lst xs =>
      obtain⟨p,vs,_,rfl,hs,hr,_⟩:=bP ra
      cases (show vv=Value.ref p from rv)
      obtain⟨its,w1,pl,_⟩:=I.list hs
      cases b with
      | non =>
        cases fU rb
        cases (show uu=Value.none from ru)
        simp only [eqN] at e;cases e
        exact⟨EqAt.list_none pl.isList hu0,RcAt.list_none pl.isList hu0,RcNeAt.list_none pl.isList hu0⟩
      | lst ys =>
        obtain⟨p',us,_,rfl,hs',hr',_⟩:=bP rb
        cases (show uu=Value.ref p' from ru)
        obtain⟨its2,w2,pl2,_⟩:=I.list hs'
        have e0:=e
        simp only [eqN] at e
        have l1:=hr.length
        have l2:=hr'.length
        have l3:=w1.length
        have l4:=w2.length
        have key:RcAt A s (.ref p) (.ref p') k /\ RcNeAt A s (.ref p) (.ref p') (!k):=by
          by_cases hl:xs.length=ys.length
          . rw [if_pos hl] at e
            obtain⟨ee,g1,g2⟩:=sF e
            have hsz:its.toArray.size=its2.toArray.size:=by simp;omega
            have em:its.toArray.size=min xs.length ys.length:=by simp;omega
            have rc:=RcAt.lists pl.isList pl2.isList hsz hu0 (seqs hr hr' w1 w2 g1)
            have rn:=RcNeAt.lists pl.isList pl2.isList hsz hu0 (seqs hr hr' w1 w2 g1)
            rw [em,g2] at rc rn
            exact⟨rc,rn⟩
          . rw [if_neg hl] at e
            cases e
            have hsz:(its.toArray.size != its2.toArray.size)=true:=by simp;omega
            exact⟨RcAt.lists_lengths pl.isList pl2.isList hsz hu0,RcNeAt.lists_lengths pl.isList pl2.isList hsz hu0⟩
        refine⟨?_,key.1,key.2⟩
        by_cases hp:p=p'
        . subst hp
          have:=C9 I _ _ _ _ _ _ _ ra rb e0
          rw [this]
          exact EqAt.same _
        . exact EqAt.of_refs hp key.1
      | _=>simp only [eqN] at e;cases e
    | obj _ _ _=>simp only [eqN] at e;cases e
    | dk _ _=>simp only [eqN] at e;cases e
    | dt _ _=>simp only [eqN] at e;cases e
    | exc _=>simp only [eqN] at e;cases e
    | fn _ _ _=>simp only [eqN] at e;cases e
end
section
variable {X:Cx}{m m' m1 m2:Bool}{rs rs' rs1 rs2:List Nat}{e a b c:Expr}{fa fb:En->Option D}{pos:Pos}
noncomputable def fEq (fa fb:En->Option D):En->Option Bool:=fun env=>match fa env,fb env with
  | some x,some y=>eqN 8 x y
  | _,_=>none
noncomputable def Z34 (neg:Bool) (K:Frag):R2:=fun v u H Q=>∃ a b f1 f2 k st1 st2,Rep K st1 H a v f1 /\ Rep K st2 H b u f2 /\ eqN 8 a b=some k /\ Q (.bl (if neg then !k else k)) H
theorem X0 (hu:X.A.units + 8 <= cLine):OpR X (compareOp .Eq) (Z34 false X.K):=fun pins s σ H x y v u Q I rx ry ⟨a,b,f1,f2,k,st1,st2,r1,r2,e,q⟩ =>
  (Z06 I 8 X.A a b x y v u f1 f2 k hu r1 r2 rx ry e).2.1 _ _ _ _ ⟨.bl k,H,I,rfl,q⟩
theorem W8 (hu:X.A.units + 8 <= cLine):OpR X (compareOp .NotEq) (Z34 true X.K):=fun pins s σ H x y v u Q I rx ry ⟨a,b,f1,f2,k,st1,st2,r1,r2,e,q⟩ =>
  (Z06 I 8 X.A a b x y v u f1 f2 k hu r1 r2 rx ry e).2.2 _ _ _ _ ⟨.bl (!k),H,I,rfl,q⟩
theorem kS {env:En}{bb:Bool}(e:fEq fa fb env=some bb):∃ x y,fa env=some x /\ fb env=some y /\ eqN 8 x y=some bb:=by
  unfold fEq at e
  split at e
  . rename_i x y h1 h2;exact⟨x,y,h1,h2,e⟩
  . cases e
theorem dX (hu:X.A.units + 8 <= cLine) (ha:QE X m1 rs1 a fa) (hb:QE X m2 rs2 b fb):QT X (.Compare a [.Eq] [b] pos) (fEq fa fb) :=
  rF (X0 hu) ha hb (jE _) (fun env x y K H v u f1 f2 Q bb e ea eb r1 r2 hK q=>by
    subst hK
    obtain⟨x',y',h1,h2,h3⟩:=kS e
    rw [ea] at h1;rw [eb] at h2;cases h1;cases h2
    exact⟨x,y,f1,f2,bb,_,_,r1,r2,h3,q⟩) fun env bb e=>let ⟨x,y,h1,h2,_⟩:=kS e;⟨x,y,h1,h2⟩
theorem Z36 (hu:X.A.units + 8 <= cLine) (ha:QE X m1 rs1 a fa) (hb:QE X m2 rs2 b fb):QT X (.Compare a [.NotEq] [b] pos) (iN (fEq fa fb)) :=
  rF (W8 hu) ha hb (jE _) (fun env x y K H v u f1 f2 Q bb e ea eb r1 r2 hK q=>by
    subst hK
    unfold iN at e
    cases h:fEq fa fb env with
    | none=>rw [h] at e;cases e
    | some k =>
      rw [h] at e
      cases e
      obtain⟨x',y',h1,h2,h3⟩:=kS h
      rw [ea] at h1;rw [eb] at h2;cases h1;cases h2
      exact⟨x,y,f1,f2,k,_,_,r1,r2,h3,q⟩) fun env bb e=>by
    unfold iN at e
    cases h:fEq fa fb env with
    | none=>rw [h] at e;cases e
    | some k=>obtain⟨x,y,h1,h2,_⟩:=kS h;exact⟨x,y,h1,h2⟩
theorem Z3b (hu:X.A.units + 8 <= cLine) (ha:QE X m1 rs1 a fa) (hb:QE X m2 rs2 b fb):QE X m rs (.Compare a [.Eq] [b] pos) (lI (fEq fa fb)) :=
  .mk (uX (X0 hu) ha hb (jE _)) fun σ H Q ⟨env,F,d,ok,e,q⟩=>by
    unfold lI at e
    cases h:fEq fa fb env with
    | none=>rw [h] at e;cases e
    | some k =>
      rw [h] at e
      cases e
      obtain⟨x,y,h1,h2,h3⟩:=kS h
      exact two ok h1 h2 fun v u H' f1 f2 s r1 r2 _ _=>⟨x,y,f1,f2,k,_,_,r1,r2,h3,q _ _ _ s lY .nil⟩
theorem Z39 (hu:X.A.units + 8 <= cLine) (ha:QE X m1 rs1 a fa) (hb:QE X m2 rs2 b fb):QE X m rs (.Compare a [.NotEq] [b] pos) (lI (iN (fEq fa fb))) :=
  .mk (uX (W8 hu) ha hb (jE _)) fun σ H Q ⟨env,F,d,ok,e,q⟩=>by
    unfold lI iN at e
    cases h:fEq fa fb env with
    | none=>rw [h] at e;cases e
    | some k =>
      rw [h] at e
      cases e
      obtain⟨x,y,h1,h2,h3⟩:=kS h
      exact two ok h1 h2 fun v u H' f1 f2 s r1 r2 _ _=>⟨x,y,f1,f2,k,_,_,r1,r2,h3,q _ _ _ s lY .nil⟩
end
section
variable {X:Cx}{m m' m1 m2:Bool}{rs rs' rs1 rs2:List Nat}{e a b c:Expr}{es:List Expr}{f fa fb:En->Option D}{fs:En->Option (List D)}{pos p p2:Pos}
noncomputable def tyN:D->Option String
  | .non=>some "NoneType"
  | .bl _=>some "bool"
  | .int _=>some "int"
  | .str _=>some "str"
  | .tup _=>some "tuple"
  | .lst _=>some "list"
  | .obj _ _ _=>none
  | .dk _ _=>none
  | .dt _ _=>none
  | .exc _=>none
  | .fn _ _ _=>none
noncomputable def mU (c:String) (d:D):Option Bool:=(tyN d).map fun T=>T == c || (T == "bool" && c == "int")
theorem Z0F {pins:List (Addr × Obj)}{σ:L2.St}{H:Hp}{s:Shared}{st:Bool}{d:D}{v:V}{u:Value}{fp:List Addr}{T:String}{cc:Value}{k:Bool}{Q:Value->Shared->Prop}{E:Value->Shared->Prop}(I:Inv X pins σ H s) (r:Rep X.K st H d v fp) (rv:RelV v u) (hT:tyN d=some T)
    (e:PySem.W.kitOne X.K (.type T) cc=some k) (h:∀ tk,Q (.bool k) { s with toks:=tk }):wpAny (model X.prog X.w) X.A (call (.builtin "isinstance") [u,cc]) Q E s:=by
  cases d with
  | non=>cases hT;exact mQ I rv (by rw [fU r];exact .non) e h
  | bl x=>cases hT;exact mQ I rv (by rw [eU r];exact .bl x) e h
  | int x=>cases hT;exact mQ I rv (by rw [bJ r];exact .int x) e h
  | str x=>cases hT;exact mQ I rv (by rw [eY r];exact .str x) e h
  | tup xs =>
    cases hT
    simp only [Rep] at r
    obtain⟨q,vs,rfl,hs,hr⟩:=r
    cases (show u=Value.ref q from rv)
    obtain⟨its,w1,pl,_⟩:=I.tuple hs
    obtain⟨o,h1,h2,_⟩:=pl
    exact PySem.W.kia_one PySem.W.kitx_tuple I.kIn ⟨o,h1,h2⟩ e (fun z=>nomatch z) h
  | lst xs =>
    cases hT
    obtain⟨q,vs,_,rfl,hs,hr,_⟩:=bP r
    cases (show u=Value.ref q from rv)
    obtain⟨its,w1,pl,_⟩:=I.list hs
    obtain⟨o,h1,h2,_⟩:=pl.isList
    exact PySem.W.kia_one PySem.W.kitx_list I.kIn ⟨o,h1,h2⟩ e (fun z=>nomatch z) h
  | obj _ _ _=>cases hT
  | dk _ _=>cases hT
  | dt _ _=>cases hT
  | exc _=>cases hT
  | fn _ _ _=>cases hT
theorem qF:bootBuiltins "isinstance" = some (.builtin "isinstance"):=by decide +kernel
theorem oK {cn:Str}{c:String}(hg:Gl X "isinstance") (hm:X.mg "isinstance" = none) (ha:QE X m1 rs1 a fa) (hgc:Gl X cn) (hmc:X.mg cn=none) (hvc:bootBuiltins cn=some (.type c))
    (hk:∀ d T k,tyN d=some T->mU c d=some k->PySem.W.kitOne X.K (.type T) (.type c)=some k) (hnc:cn ≠ "__name__":=by decide) (hdc:(cn == ("__debug__" : Str))=false:=by decide)
    (he:starEach [a,.Name cn p2] X.env=(false,eval a X.env) :: starEach [.Name cn p2] X.env:=by rfl) (he2:starEach [.Name cn p2] X.env=(false,eval (.Name cn p2) X.env) :: starEach [] X.env:=by rfl) (hpl:(backTo pos (starEach [.Name cn p2] X.env)).any (·.1)=false:=by rfl) :
    QE X m rs (.Call (.Name "isinstance" p) [a,.Name cn p2] [] pos) (fun env=>(fa env).bind fun d=>(mU c d).map .bl) :=
  .mk (L2.pe_callB (r:=fun vs H Q=>∃ d v fp k st,vs=[v,.ty c] /\ Rep X.K st H d v fp /\ mU c d=some k /\ Q (.bl k) H)
      (fun pins s σ H xs us Q I w h=>by
        obtain⟨d,v,fp,k,st,rfl,r,hi,q⟩:=h
        obtain⟨u,w',rfl,r1,r2⟩:=Z1A w
        cases (show w'=Value.type c from r2)
        unfold mU at hi
        cases hT:tyN d with
        | none=>rw [hT] at hi;cases hi
        | some T=>exact Z0F I r r1 hT (hk d T k hT (by unfold mU;exact hi)) fun tk=>⟨.bl k,H,I.tok tk,rfl,q⟩)
      hg hm qF (jS ha (jS (Z10 (v:=.ty c) hgc hmc hvc rfl hnc hdc) rK he2) he) (by decide) (by decide) he hpl) fun σ H Q ⟨env,F,d,ok,e,q⟩=>by
    cases h1:fa env with
    | none=>simp only [h1] at e;cases e
    | some d' =>
      simp only [h1,Option.bind_some] at e
      cases h2:mU c d' with
      | none=>rw [h2] at e;cases e
      | some k =>
        rw [h2] at e
        cases e
        exact⟨env,F,d',ok,h1,fun v H' fp s r c=>⟨d',v,fp,k,m1,rfl,r,h2,q _ _ _ s lY .nil⟩⟩
theorem Z1 (K:Frag):∀ d T k,tyN d=some T->mU "list" d=some k->PySem.W.kitOne K (.type T) (.type "list")=some k:=by
  intro d T k h1 h2
  unfold mU at h2
  rw [h1] at h2
  cases d <;> simp only [tyN,Option.some.injEq] at h1 <;> first | (subst h1;cases h2;rfl) | (cases h1)
theorem Z1a (K:Frag):∀ d T k,tyN d=some T->mU "int" d=some k->PySem.W.kitOne K (.type T) (.type "int")=some k:=by
  intro d T k h1 h2
  unfold mU at h2
  rw [h1] at h2
  cases d <;> simp only [tyN,Option.some.injEq] at h1 <;> first | (subst h1;cases h2;rfl) | (cases h1)
theorem Z2 (K:Frag):∀ d T k,tyN d=some T->mU "bool" d=some k->PySem.W.kitOne K (.type T) (.type "bool")=some k:=by
  intro d T k h1 h2
  unfold mU at h2
  rw [h1] at h2
  cases d <;> simp only [tyN,Option.some.injEq] at h1 <;> first | (subst h1;cases h2;rfl) | (cases h1)
theorem boot_bool:bootBuiltins "bool" = some (.type "bool"):=by decide +kernel
theorem gB:OpR X (binaryOp .Mult) (rI IntMulOk fun i j=>.int (i * j)):=opI fun _ _ _ _ _ _ _ hc q=>PyProof.Rows.mul_int q hc
noncomputable def fE (i j:Int):Prop:=0 < j /\ j.natAbs.log2 < 9000
theorem gS:OpR X (binaryOp .FloorDiv) (rI fE fun i j=>.int (i / j)):=opI fun i j _ _ _ _ _ hc q=>by
  have h1:(0:Int) < j:=hc.1
  exact floordiv_int (by omega) (by rw [Int.fdiv_eq_ediv_of_nonneg i (by omega)];exact q) (.inl (PyProof.noPylong_of_log2 hc.2))
noncomputable def lO:List D->Option (List Int)
  | []=>some []
  | .int i :: r=>(lO r).map (i :: ·)
  | _ :: _=>none
theorem pA {K:Frag}{st:Bool}{H:Hp}:∀ {ds:List D}{ns:List Int}{vs:List V}{fp:List Addr},lO ds=some ns->Reps K st H ds vs fp->vs=ns.map V.int
  | [],ns,vs,fp,h,r=>by simp only [lO] at h;cases h;simp only [Reps] at r;exact r.1
  | d :: ds,ns,vs,fp,h,r=>by
    simp only [Reps] at r
    obtain⟨v,us,f1,f2,rfl,rfl,r1,r2⟩:=r
    cases d with
    | int i =>
      simp only [lO] at h
      cases hq:lO ds with
      | none=>rw [hq] at h;cases h
      | some ms =>
        rw [hq] at h
        cases h
        rw [bJ r1,pA hq r2]
        rfl
    | _=>simp only [lO] at h;cases h
noncomputable def vY:List D->Option D
  | [.lst ds]=>(lO ds).map fun ns=>.int ns.sum
  | _=>none
theorem Q3 (hc:X.calm=true):CallR X (.builtin "sum") (fun vs H Q=>∃ (a:Addr) (ns:List Int),vs=[.ref a] /\ SqL X.K H a (ns.map V.int) /\ Q (.int ns.sum) H):=fun pins s σ H xs us Q I w h=>by
  obtain⟨a,ns,rfl,hs,q⟩:=h
  obtain⟨u,rfl,r⟩:=mV w
  cases (show u=Value.ref a from r)
  obtain⟨its,w1,pl,_⟩:=I.list hs
  have hi:=rV w1
  obtain⟨xs,ex⟩:=hi.allInts.items
  have hl:s.heap.IsList a (intItems xs):=by
    have:=pl.isList
    rw [ex] at this
    exact this
  refine sum_intListG (I.ok.hd hc) hl fun h' tk t' hk=>?_
  refine⟨.int ns.sum,H,I.kept hk,⟨t',?_⟩,q⟩
  have e1:=hi.numsOf
  have e2:(numsOf its.toArray.toList).sum=ns.sum:=by rw [show its.toArray.toList=its from rfl,e1]
  rw [ex,nums_intItems] at e2
  rw [preSum_eq,List.take_of_length_le (by simp),e2]
theorem zF {p:Pos}(hcm:X.calm=true) (hg:Gl X "sum") (hm:X.mg "sum" = none) (ha:QE X m1 rs1 a fa) (he:starEach [a] X.env=(false,eval a X.env) :: starEach [] X.env:=by rfl) (hpl:(backTo pos (starEach [] X.env)).any (·.1)=false:=by rfl) :
    QE X m rs (.Call (.Name "sum" p) [a] [] pos) (fun env=>(aC fa aL env).bind vY) :=
  kN (Q3 hcm) hg hm PyProof.Rows.boot_sum (aD ha aK he) (fun ds d vs H fp Q e r q=>by
    unfold vY at e
    split at e
    . rename_i ds'
      cases hq:lO ds' with
      | none=>rw [hq] at e;cases e
      | some ns =>
        rw [hq] at e
        cases e
        obtain⟨v,rfl,r1⟩:=iP r
        obtain⟨p,ws,fp',rfl,hsq,hr,hsub⟩:=bP r1
        rw [pA hq hr] at hsq
        exact⟨p,ns,rfl,hsq,q _ _ [] (Same.refl H) fZ (fun b hb=>(by cases hb)) List.nodup_nil⟩
    . cases e) (he:=he) (hpl:=hpl)
noncomputable def B7 (fa fb:En->Option D):En->Option D:=fun env=>match fa env,fb env with
  | some (.lst xs),some (.lst ys)=>if xs.length + ys.length <= 1000 then some (.lst (xs ++ ys)) else none
  | _,_=>none
theorem Z2a (ha:QE X true [] a fa) (hb:QE X true [] b fb):QE X true [] (.BinOp a .Add b pos) (B7 fa fb) :=
  .mk (L2.pe_op X1 ha hb) fun σ H Q ⟨env,F,d,ok,e,q⟩=>by
    unfold B7 at e
    split at e
    . rename_i xs ys h1 h2
      split at e
      . rename_i hl
        cases e
        refine⟨env,F,_,ok,h1,fun v H1 f1 s1 r1 c1=>⟨env,F,_,ok.same s1,h2,fun u H2 f2 s2 r2 c2=>?_⟩⟩
        have r1':=r1.same s2
        obtain⟨a1,vs,g1,rfl,rfl,ha1,hr1⟩:=jC r1'
        obtain⟨a2,us,g2,rfl,rfl,ha2,hr2⟩:=jC r2
        refine⟨a1,a2,vs,us,rfl,rfl,ha1,ha2,mM (by rw [hr1.length,hr2.length];exact hl),fun p hp=>?_⟩
        have hc1:=c1.2 rfl
        have hc2:=c2.2 rfl
        have nd:(g1 ++ g2).Nodup:=by
          refine List.nodup_append.mpr ⟨(List.nodup_cons.mp hc1.1).2,(List.nodup_cons.mp hc2.1).2,fun x hx y hy z=>?_⟩
          obtain⟨o,ho⟩:=Rep.dom _ _ _ r1 x (List.mem_cons_of_mem _ hx)
          rw [z,hc2.2 y (List.mem_cons_of_mem _ hy)] at ho
          cases ho
        have fr:∀ b ∈ g1 ++ g2,H b=none:=fun b hb=>(List.mem_append.mp hb).elim (fun z=>hc1.2 b (List.mem_cons_of_mem _ z)) fun z=>s1.free (hc2.2 b (List.mem_cons_of_mem _ z))
        exact q _ _ (p :: (g1 ++ g2)) ((s1.trans s2).trans (cC hp)) (lX hp (hr1.append hr2)) (nZ (s1.trans s2) hp (hr1.append hr2) ⟨fun b hb=>.inl (fr b hb),fun _=>⟨nd,fr⟩⟩)
      . cases e
    . cases e
end
section
variable {X:Cx}{m m' m1 m2:Bool}{rs rs' rs1 rs2:List Nat}{e a b c:Expr}{es:List Expr}{f fa fb:En->Option D}{fs:En->Option (List D)}{pos p p2 pos':Pos}{i:Nat}{x nm:Str}{C:Addr}
end
noncomputable def spI (K:Frag) (C:Addr) (n:Nat) (f:List D->Option D):Sp:=fun vs H Q _=>∃ x dx H0 us ds d fp,vs=.ref x :: us /\ H0 x=none /\ H0 dx=none /\ dx ≠ x /\ H=upd (upd H0 dx (.own x)) x (.ins C dx []) /\ ds.length=n /\ Reps K false H0 ds us fp /\ f ds=some d /\
  ∀ H' fp',Same H0 H'->Rep K true H' d (.ref x) fp'->(∀ b ∈ fp',H0 b=none)->fp'.Nodup->Q .non H'
theorem Z0y {K:Frag}{C:Addr}{n:Nat}{f:List D->Option D}{vs:List V}{H:Hp}{Q:VK}{E:XK}(h:spI K C n f vs H Q E):vs.length=n + 1:=by
  obtain⟨x,dx,H0,us,ds,d,fp,rfl,_,_,_,_,h1,h2,_⟩:=h
  rw [List.length_cons,h2.length,h1]
section
variable {X:Cx}{m m' m1 m2:Bool}{rs rs' rs1 rs2:List Nat}{e a b c:Expr}{es:List Expr}{f fa fb:En->Option D}{fs:En->Option (List D)}{pos p p2 pos':Pos}{i:Nat}{x nm:Str}{C:Addr}
theorem Z0L {k n:Nat}{fA:Addr}{fd:FuncData}{ps:List Str}{F':List D->Option D}(M:Mk X.K C fA) (G:FnOk X.prog X.w X.K X.mg X.base CX0 k fA fd ps (spI X.K C n F')) (hr:Room (k + 1) X.A) (hg:Gl X x) (hm:X.mg x=some (.ref C)) (hb:Binds X.K fd ps []) (ha:QA X m1 rs1 (e :: es) fs) (hn:∀ env xs,fs env=some xs->xs.length=n)
    (hdb:(x == ("__debug__" : Str))=false:=by decide) (he:starEach (e :: es) X.env=(false,eval e X.env) :: starEach es X.env:=by rfl) (hpl:(backTo pos (starEach es X.env)).any (·.1)=false:=by rfl) :
    QE X true [] (.Call (.Name x p) (e :: es) [] pos) (fun env=>(fs env).bind F') :=
  .mk (L2.pe_make M G hr hg hm hb .nil W5 ha hdb he hpl) fun σ H Q ⟨env,F,d,ok,e,q⟩=>by
    cases h1:fs env with
    | none=>simp only [h1] at e;cases e
    | some xs =>
      simp only [h1,Option.bind_some] at e
      refine⟨env,F,xs,ok,h1,fun vs H1 fp s r c x dx hx hdx hne=>⟨x,dx,H1,vs ++ [],xs,d,fp,rfl,hx,hdx,hne,rfl,hn env xs h1,by rw [List.append_nil];exact Reps.weak _ _ _ r,e,fun H' fp' s' r' fr nd=>⟨rfl,q _ H' fp' (s.trans s') r' ⟨fun b hb=>.inl (s.free (fr b hb)),fun _=>⟨nd,fun b hb=>s.free (fr b hb)⟩⟩⟩⟩⟩
end
theorem zD {K:Frag}{st:Bool}{H:Hp}{a:Addr}{vs:List V}{ds:List D}{fp:List Addr}(ha:H a=some (.lst vs)) (r:Reps K true H ds vs fp):Rep K st H (.lst ds) (.ref a) (a :: fp):=by
  cases st with
  | true=>simp only [Rep];exact⟨a,vs,fp,rfl,r,.inl ⟨rfl,ha⟩⟩
  | false=>simp only [Rep];exact⟨a,vs,fp,rfl,Reps.weak _ _ _ r,.inl ⟨rfl,ha⟩⟩
section
variable {X:Cx}{m1:Bool}{rs1:List Nat}{e:Expr}{f:En->Option D}{pos p p2 p3:Pos}{i:Nat}{x:Str}{k:Int}
end
structure aN (P:Program) (w:World) (K:Frag) (mg:Str->Option Value) (base:Heap) (x:Str) (dds:List D) (k n:Nat) (F':List D->Option D):Prop where
  ex:∃ fA fd ps dvs ds,FnOk P w K mg base CX0 k fA fd ps (spD K n F') /\ mg x=some (.ref fA) /\ keepIn K (.ref fA)=true /\ Binds K fd ps ds /\ Vals dvs ds /\ ∀ H,Reps K false H dds dvs []
noncomputable def aP (F':List D->Option D) (dds:List D) (fs:En->Option (List D)):En->Option D:=fun env=>(fs env).bind fun xs=>F' (xs ++ dds)
noncomputable def fB1 (F':List D->Option D) (fs:En->Option (List D)):En->Option D:=fun env=>(fs env).bind F'
noncomputable def sB1 (F':List D->Option (List D)) (fs:En->Option (List D)):En->Option (List D):=fun env=>(fs env).bind F'
noncomputable def Z05 (c:String) (fa:En->Option D):En->Option D:=fun env=>(fa env).bind fun d=>(mU c d).map .bl
inductive NArgs:Nat->(En->Option (List D))->Prop
  | nil:NArgs 0 aL
  | cons {n:Nat}{f:En->Option D}{fs:En->Option (List D)}:NArgs n fs->NArgs (n + 1) (aC f fs)
theorem NArgs.len {n:Nat}{fs:En->Option (List D)}(h:NArgs n fs):∀ env xs,fs env=some xs->xs.length=n:=by
  induction h with
  | nil=>intro env xs e;cases e;rfl
  | cons h ih =>
    intro env xs e
    unfold aC at e
    split at e
    . rename_i d ds h1 h2
      cases e
      rw [List.length_cons,ih env _ h2]
    . cases e
section
variable {X:Cx}{m m' m1 m2:Bool}{rs rs' rs1 rs2:List Nat}{e a b c:Expr}{es:List Expr}{f fa fb:En->Option D}{fs:En->Option (List D)}{pos p p2 pos':Pos}{i:Nat}{x nm:Str}{C:Addr}
theorem bD {k n na:Nat}{dds:List D}{F':List D->Option D}(c:aN X.prog X.w X.K X.mg X.base x dds k n F') (hr:Room k X.A) (hna:NArgs na fs) (hn:na + dds.length=n) (ha:QA X m1 rs1 (e :: es) fs) (hg:Gl X x:=by rfl)
    (hdb:(x == ("__debug__" : Str))=false:=by decide) (he:starEach (e :: es) X.env=(false,eval e X.env) :: starEach es X.env:=by rfl) (hpl:(backTo pos (starEach es X.env)).any (·.1)=false:=by rfl) :
    QE X true [] (.Call (.Name x p) (e :: es) [] pos) (aP F' dds fs):=by
  obtain⟨fA,fd,ps,dvs,ds,G,hm,hk,hb,hd,hdd⟩:=c.ex
  exact Z0N G hr hg hm hk hb hd hdd ha (fun env xs h=>by rw [hna.len env xs h];exact hn) hdb he hpl
structure Z0n (P:Program) (w:World) (K:Frag) (mg:Str->Option Value) (base:Heap) (x:Str) (C:Addr) (k n:Nat) (F':List D->Option D):Prop where
  ex:∃ fA fd ps,Mk K C fA /\ FnOk P w K mg base CX0 k fA fd ps (spI K C n F') /\ mg x=some (.ref C) /\ Binds K fd ps []
theorem Z3a {k n:Nat}{F':List D->Option D}(c:Z0n X.prog X.w X.K X.mg X.base x C k n F') (hr:Room (k + 1) X.A) (hna:NArgs n fs) (ha:QA X m1 rs1 (e :: es) fs) (hg:Gl X x:=by rfl)
    (hdb:(x == ("__debug__" : Str))=false:=by decide) (he:starEach (e :: es) X.env=(false,eval e X.env) :: starEach es X.env:=by rfl) (hpl:(backTo pos (starEach es X.env)).any (·.1)=false:=by rfl) :
    QE X true [] (.Call (.Name x p) (e :: es) [] pos) (fB1 F' fs):=by
  obtain⟨fA,fd,ps,M,G,hm,hb⟩:=c.ex
  exact Z0L M G hr hg hm hb ha (fun env xs h=>hna.len env xs h) hdb he hpl
theorem dG {k:Nat}{A:Around}(r:Room k A):A.units + 8 <= cLine:=by have:=r.un;omega
theorem hU {apos cpos:Pos}(i:Nat) (he:QE X true [] e f) (hN:X.N[i]? = some x:=by rfl) (hv:Vis X.env.scope x:=by first | exact Or.inl rfl | exact Or.inr (Or.inl rfl) | exact Or.inr (Or.inr rfl)) (hd:(x == ("__debug__" : Str))=false:=by decide) (hcd:(x == ("__classdict__" : Str))=false:=by decide)
    (hbase:attributeBase (.Name x p) "append" X.env (eval (.Name x p) X.env)=eval (.Name x p) X.env:=by rfl)
    (hfew:((backTo cpos (starEach [e] X.env)).all (fun x=>!x.1) && (backToKw cpos (keywordEach [] X.env)).all (fun x=>x.1.isSome)
      && decide (([e]:List Expr).length + ([]:List Keyword).length + (if ([]:List Keyword).isEmpty then 0 else 1) < 30))=true:=by rfl)
    (hline:(apos.endLine == cpos.line)=true:=by rfl) (hst:starEach [e] X.env=(false,eval e X.env) :: starEach [] X.env:=by rfl) (hplain:(backTo cpos (starEach [] X.env)).any (·.1)=false:=by rfl)
    (hs:swapsWith (.Call (.Attribute (.Name x p) "append" apos) [e] [] cpos) none pos.line X.env=pure false:=by rfl) :
    QS X (.Expr (.Call (.Attribute (.Name x p) "append" apos) [e] [] cpos) pos) (gQ i f) :=
  M3 hN hv he hd hcd hst (hpe:=Z1G PySem.F.plainAttrs_list PySem.F.slot_list_append PySem.F.type_list_append tV (iK hN hv hd hcd) (jS he rK hst) hbase hfew hline hst hplain) (hs:=hs)
theorem D3 {k:Expr}{fk:En->Option D}{spos:Pos}(i:Nat) (hk:QE X m2 rs2 k fk) (he:QE X m1 rs1 e f) (hN:X.N[i]? = some x:=by rfl) (hv:Vis X.env.scope x:=by first | exact Or.inl rfl | exact Or.inr (Or.inl rfl) | exact Or.inr (Or.inr rfl)) (hd:(x == ("__debug__" : Str))=false:=by decide) (hcd:(x == ("__classdict__" : Str))=false:=by decide)
    (ha:∀ v,assign (.Subscript (.Name x p) k spos) X.env v=(do
      let ov <- holding [v] (eval (.Name x p) X.env)
      let iv <- holding [v,ov] (eval k X.env)
      standAt spos
      holding [v,ov,iv] (setItem ov iv v)
      release [v,ov,iv] []):=by intro _;rfl)
    (hs:swapsWithSole [.Subscript (.Name x p) k spos] e pos.line X.env=pure false:=by rfl) (hw:swappedStores [.Subscript (.Name x p) k spos] e X.env=pure none:=by rfl) :
    QS X (.Assign [.Subscript (.Name x p) k spos] e pos) (wR i fk f) :=
  Z27 hN hv he hk hd hcd (hps:=W2 he (Z2k (iK hN hv hd hcd) hk T5 ha) hs hw)
theorem Z0I {tg:Expr}{t:D->En->Option En}(he:QE X m rs e f) (hg:QG X tg t) (hs:swapsWithSole [tg] e pos.line X.env=pure false:=by rfl) (hw:swappedStores [tg] e X.env=pure none:=by rfl) (h1:(assignEach [tg] X.env).map (·.2)=[assign tg X.env]:=by rfl):QS X (.Assign [tg] e pos) (L8 rs t f) :=
  Z25 he hg hs hw (hps:=W2 he hg hs hw h1)
end
noncomputable def lW (i:Nat):En->Res:=fun env=>match env[i]? with | some (some (true,d))=>.ret d | _=>.bad
noncomputable def wQ (i j:Nat):En->Res:=fun env=>match env[i]?,env[j]? with
  | some (some (true,d)),some (some (true,d'))=>.ret (.tup [d,d'])
  | _,_=>.bad
section
variable {X:Cx}{m m' m1 m2:Bool}{rs rs' rs1 rs2:List Nat}{e a b c:Expr}{es:List Expr}{f fa fb:En->Option D}{fs:En->Option (List D)}{pos p p2 p3 pos':Pos}{i j:Nat}{x y:Str}{C:Addr}
theorem Z0K {k1:Nat}(hij:i ≠ j) (hN:X.N[i]? = some x:=by rfl) (hv:Vis X.env.scope x:=by first | exact Or.inl rfl | exact Or.inr (Or.inl rfl) | exact Or.inr (Or.inr rfl)) (hN2:X.N[j]? = some y:=by rfl) (hv2:Vis X.env.scope y:=by first | exact Or.inl rfl | exact Or.inr (Or.inl rfl) | exact Or.inr (Or.inr rfl))
    (hd:(x == ("__debug__" : Str))=false:=by decide) (hcd:(x == ("__classdict__" : Str))=false:=by decide) (hd2:(y == ("__debug__" : Str))=false:=by decide) (hcd2:(y == ("__classdict__" : Str))=false:=by decide)
    (h1:starEach [.Name x p,.Name y p2] X.env=(false,eval (.Name x p) X.env) :: starEach [.Name y p2] X.env:=by rfl) (h2:starEach [.Name y p2] X.env=(false,eval (.Name y p2) X.env) :: starEach [] X.env:=by rfl) :
    QS X (.Return (some (.Tuple [.Name x p,.Name y p2] k1 p3)) pos) (wQ i j):=.mk (zK (L2.pe_tup (jS (iK hN hv hd hcd) (jS (iK hN2 hv2 hd2 hcd2) rK h2) h1))) fun E σ H ⟨P,env,I,q⟩=>by
  obtain⟨F,hF⟩:=I.ex
  unfold wQ at q
  split at q
  . rename_i d d' e1 e2
    obtain⟨v,hv1,_⟩:=hF.ok i true d e1
    obtain⟨a1,a2,a3,a4⟩:=hF.own i d e1
    obtain⟨v',hv1',_⟩:=hF.ok j true d' e2
    obtain⟨b1,b2,b3,b4⟩:=hF.own j d' e2
    refine⟨v,hv1,v',hv1',by show 2 <= sizeLine;decide,fun q' hq=>?_⟩
    refine q _ _ (F i ++ F j) (I.same.trans (cC hq)) (oQ hq ?_) (fun b hb=>(List.mem_append.mp hb).elim (a2 b) (b2 b)) (List.nodup_append.mpr ⟨a1,b1,fun s hs t ht z=>a4 j _ (Ne.symm hij) e2 s hs (z ▸ ht)⟩)
    simp only [Reps]
    exact⟨v,[v'],F i,F j,rfl,rfl,a3 v hv1,v',[],F j,[],rfl,by simp,b3 v' hv1',rfl,rfl⟩
  . exact q.elim
theorem uV {k:Nat}{i:Int}{pp:Pos}:QE X m rs (.UnaryOp .USub (.Constant (.int i) k pp) pos) (fC (.int (-i))) :=
  .mk (Z3f Z1R L2.pe_int) fun σ H Q ⟨env,F,d,ok,e,q⟩=>by cases e;exact⟨i,rfl,q _ _ _ (Same.refl H) fZ .nil⟩
end
theorem FunD.raw {P:Program}{w:World}{K:Frag}{mg:Str->Option Value}{base:Heap}{x qual:Str}{st:Stmt}{f:Addr}{fd:FuncData}{N ps:List Str}{k:Nat}{sp:Sp}(F:FunD K x qual st f fd) (S:aT N ps (aE st)) (len:∀ vs H Q E,sp vs H Q E->vs.length=ps.length)
    (hbody:∀ (cdv:Value) (A:Around) (outer:List Env) (s:Shared) (H:Hp) (vs:List V) (Q:VK) (E:XK),Room k (A.deeper (envOfC qual (aE st) s.heap.objs.size f cdv))->sp vs H Q E ->
      ∃ t,PSs (pG CX0 P w K mg base N qual (aE st) f cdv A outer s H E).nox (aI st) t /\ t { nx:=fun _ H'=>Q .non H',rt:=Q } (L2.start N vs) H):FnOk P w K mg base CX0 (k + 1) f fd ps sp:=by
  obtain⟨oc,od,dV,kV,doc,pm,an,cdv,ct,osl,rfl,lk,hcd⟩:=F.ex
  refine J1 lk hcd S len fun A outer s H vs Q E hr hsp=>?_
  obtain⟨t,h,q⟩:=hbody cdv A outer s H vs Q E hr hsp
  exact⟨t,h.nox,q⟩
theorem Z3q {K:Frag}{C x dx:Addr}{H0:Hp}{σ:L2.St}{us:List V}{ds:List D}{fp:List Addr}{n1 n2 n3:Str}{f1 f2 f3:En->Option D}{env:En}{d1 d2 d3:D}{E:yN}{F:Nat->List Addr}
    (hx:H0 x=none) (hdx:H0 dx=none) (hne:dx ≠ x) (ok:EnvOk K H0 σ env F) (h0:σ[0]? = some (some (.ref x))) (e1:f1 env=some d1) (e2:f2 env=some d2) (e3:f3 env=some d3)
    (hC:Cls K C) (a1:NoAttr K C n1) (a2:NoAttr K C n2) (a3:NoAttr K C n3) (k12:¬ n1=n2) (k13:¬ n1=n3) (k23:¬ n2=n3)
    (q:∀ H' fp',Same H0 H'->Rep K true H' (.obj C [n1,n2,n3] [d1,d2,d3]) (.ref x) fp'->(∀ b ∈ fp',H0 b=none)->fp'.Nodup->E.nx σ H') :
    Z1W (Z0E K (wJ 0) (tD K true [] f1) n1) (Z1W (Z0E K (wJ 0) (tD K true [] f2) n2) (Z0E K (wJ 0) (tD K true [] f3) n3)) E σ (upd (upd H0 dx (.own x)) x (.ins C dx [])):=by
  have hx':upd H0 dx (.own x) x=none:=by rw [aM (Ne.symm hne)];exact hx
  have s0:Same H0 (upd (upd H0 dx (.own x)) x (.ins C dx [])):=(cC hdx).trans (cC hx')
  have stp:∀ {Ha Hb:Hp}{o:HO},Same H0 Ha->Same Ha Hb->Same H0 (upd Hb x o):=fun {Ha Hb o} sa sb b u e=>by
    rw [aM (aR e hx)];exact sb _ _ (sa _ _ e)
  have p1:∀ y1:V,kA n1 y1 []=[(n1,y1)]:=fun _=>rfl
  have p2:∀ y1 y2:V,kA n2 y2 [(n1,y1)]=[(n1,y1),(n2,y2)]:=fun y1 y2=>by simp [kA,k12]
  have p3:∀ y1 y2 y3:V,kA n3 y3 [(n1,y1),(n2,y2)]=[(n1,y1),(n2,y2),(n3,y3)]:=fun y1 y2 y3=>by simp [kA,k13,k23]
  refine⟨env,F,d1,ok.same s0,e1,fun y1 H1 g1 s1 r1 c1=>⟨.ref x,h0,x,C,dx,[],rfl,s1 _ _ aV,hC,a1,by show 0 < 1000;decide,?_⟩⟩
  rw [p1]
  have S1:Same H0 (upd H1 x (.ins C dx [(n1,y1)])):=stp s0 s1
  refine⟨env,F,d2,ok.same S1,e2,fun y2 H2 g2 s2 r2 c2=>⟨.ref x,h0,x,C,dx,[(n1,y1)],rfl,s2 _ _ aV,hC,a2,by show 1 < 1000;decide,?_⟩⟩
  rw [p2]
  have S2:Same H0 (upd H2 x (.ins C dx [(n1,y1),(n2,y2)])):=stp S1 s2
  refine⟨env,F,d3,ok.same S2,e3,fun y3 H3 g3 s3 r3 c3=>⟨.ref x,h0,x,C,dx,[(n1,y1),(n2,y2)],rfl,s3 _ _ aV,hC,a3,by show 2 < 1000;decide,?_⟩⟩
  rw [p3]
  have S3:Same H0 (upd H3 x (.ins C dx [(n1,y1),(n2,y2),(n3,y3)])):=stp S2 s3
  have x1:H1 x=some (.ins C dx []):=s1 _ _ aV
  have x2:H2 x=some (.ins C dx [(n1,y1)]):=s2 _ _ aV
  have x3:H3 x=some (.ins C dx [(n1,y1),(n2,y2)]):=s3 _ _ aV
  have hc1:=c1.2 rfl
  have hc2:=c2.2 rfl
  have hc3:=c3.2 rfl
  have nx1:x ∉ g1:=fun z=>by have:=hc1.2 x z;rw [aV] at this;cases this
  have nx2:x ∉ g2:=fun z=>by have:=hc2.2 x z;rw [aV] at this;cases this
  have nx3:x ∉ g3:=fun z=>by have:=hc3.2 x z;rw [aV] at this;cases this
  have ku:∀ {Ha:Hp}{o o':HO}{fp:List Addr},Ha x=some o->(∀ xs,o ≠ .tup xs)->(∀ a b,o ≠ .frz a b)->x ∉ fp->Kp fp Ha (upd Ha x o'):=fun h m f n=>Kp.upd h m f n
  have R1:=Rep.keep _ _ _ (ku (o':=.ins C dx [(n1,y1)]) x1 (by intro xs z;cases z) (by intro a b z;cases z) nx1) r1
  have R1':=Rep.keep _ _ _ (ku (o':=.ins C dx [(n1,y1),(n2,y2)]) x2 (by intro xs z;cases z) (by intro a b z;cases z) nx1) (R1.same s2)
  have R1'':=Rep.keep _ _ _ (ku (o':=.ins C dx [(n1,y1),(n2,y2),(n3,y3)]) x3 (by intro xs z;cases z) (by intro a b z;cases z) nx1) (R1'.same s3)
  have R2:=Rep.keep _ _ _ (ku (o':=.ins C dx [(n1,y1),(n2,y2)]) x2 (by intro xs z;cases z) (by intro a b z;cases z) nx2) r2
  have R2':=Rep.keep _ _ _ (ku (o':=.ins C dx [(n1,y1),(n2,y2),(n3,y3)]) x3 (by intro xs z;cases z) (by intro a b z;cases z) nx2) (R2.same s3)
  have R3:=Rep.keep _ _ _ (ku (o':=.ins C dx [(n1,y1),(n2,y2),(n3,y3)]) x3 (by intro xs z;cases z) (by intro a b z;cases z) nx3) r3
  have d12:∀ a ∈ g1,∀ b ∈ g2,a ≠ b:=fun a ha b hb z=>by
    obtain⟨o,ho⟩:=Rep.dom _ _ _ R1 a ha
    rw [z,hc2.2 b hb] at ho;cases ho
  have d13:∀ a ∈ g1,∀ b ∈ g3,a ≠ b:=fun a ha b hb z=>by
    obtain⟨o,ho⟩:=Rep.dom _ _ _ R1' a ha
    rw [z,hc3.2 b hb] at ho;cases ho
  have d23:∀ a ∈ g2,∀ b ∈ g3,a ≠ b:=fun a ha b hb z=>by
    obtain⟨o,ho⟩:=Rep.dom _ _ _ R2 a ha
    rw [z,hc3.2 b hb] at ho;cases ho
  refine q _ (x :: (g1 ++ (g2 ++ (g3 ++ [])))) S3 ?_ (fun b hb=>?_) ?_
  . simp only [Rep,Reps]
    exact⟨x,dx,[y1,y2,y3],g1 ++ (g2 ++ (g3 ++ [])),rfl,rfl,aV,rfl,y1,[y2,y3],g1,_,rfl,rfl,R1'',y2,[y3],g2,_,rfl,rfl,R2',y3,[],g3,[],rfl,rfl,R3,rfl,rfl⟩
  . rcases List.mem_cons.mp hb with z | z
    . rw [z];exact hx
    . rw [List.append_nil] at z
      rcases List.mem_append.mp z with z | z
      . exact s0.free (hc1.2 b z)
      . rcases List.mem_append.mp z with z | z
        . exact S1.free (hc2.2 b z)
        . exact S2.free (hc3.2 b z)
  . rw [List.append_nil]
    refine List.nodup_cons.mpr ⟨fun z=>?_,List.nodup_append.mpr ⟨hc1.1,List.nodup_append.mpr ⟨hc2.1,hc3.1,d23⟩,fun a ha b hb=>?_⟩⟩
    . rcases List.mem_append.mp z with z | z
      . exact nx1 z
      . rcases List.mem_append.mp z with z | z
        . exact nx2 z
        . exact nx3 z
    . rcases List.mem_append.mp hb with z | z
      . exact d12 a ha b z
      . exact d13 a ha b z
end PD
namespace Att
open PySem PySem.W PySem.Calls PyProof.Rows
theorem lS:∀ {ns:List Int}{i:Int},i ∈ ns->WData.weight (.int i) <= WData.weightAll (ns.map WData.int)
  | [],i,h=>nomatch h
  | n :: ns,i,h=>by
    simp only [List.map_cons,WData.weightAll]
    rcases List.mem_cons.mp h with z | z
    . subst z;omega
    . have:=lS z;omega
theorem yJ {ns:List Int}(h:WData.layableAll [WData.list (ns.map WData.int)]=true):∀ i ∈ ns,Builtin.Int.intBits i <= 1048576:=fun i hi=>by
  simp only [WData.layableAll,List.all_cons,List.all_nil,Bool.and_true,WData.layable,Bool.and_eq_true,decide_eq_true_eq,WData.weight] at h
  have h1:=lS hi
  have h2:WData.weight (.int i)=Builtin.Int.intBits i:=by simp only [WData.weight,Builtin.Int.intBits]
  rw [h2] at h1
  have h3:WData.weightAll (List.map WData.int ns) <= 2 ^ 20:=of_decide_eq_true h.2
  exact Nat.le_trans h1 h3
theorem attach_callB {l:OpenLaw}{n:Nat}{q:Program}{loose:List Str}{XP:(Str->Option Value)->Heap->Prop}{YP:World->Heap->Prop}{d:DefRec}
    (hn:l.most=some n) (hdf:d.params.defaults=[])
    (call:∀ (w:World) (s₀ s₁:Shared) (mg mb:Str->Option Value) (fa:Addr) (o:Obj) (pm cd doc:Value) (a:Addr) (vs:List Value) (ns:List Int),
      (∀ i ∈ ns,Builtin.Int.intBits i <= 1048576)->Ground q loose [] XP w s₀ mg mb s₁.heap->YP w s₁.heap ->
      s₁.heap.get? fa=some o->o.data=.func (docDef d.name d.params d.body d.scope pm cd doc)->s₁.heap.CodeRec cd d.name->mg d.name=some (.ref fa) ->
      s₁.heap.get? a=some { cls:=.type "list",data:=.seq vs.toArray }->IntsAre vs ns->ns.length <= n->s₁.gens = #[] ->
      codeAny (model l.prog w) callerA (.call (.ref fa) ⟨[.ref a],[]⟩) (fun r s'=>r=.ok (.ret (.bool true)) /\ OldK s₁.heap s'.heap /\ s'.os=s₁.os /\ AllBare s'.gens) s₁) :
    WalkO q loose XP YP l.row.toRowW d [] (fun f vs=>PySem.call f vs):=by
  intro w s₀ s₁ mg mb G Y fa o pm cd doc dV kV ho hd hcd hD hmg hg args vals as hpre hlay hrd hwl hlo
  obtain rfl:dV=.none:=Dflts.none hD hdf
  obtain rfl:kV=.none:=Dflts.noKw hD
  obtain⟨a,vs,ns,rfl,rfl,hobj,hints,hlen⟩:=L1 hn hpre hwl
  refine enter_call (codeAny_mono (call w s₀ s₁ mg mb fa o pm cd doc a vs ns (yJ hlay) G Y ho (fd_plain hd) hcd hmg hobj hints hlen hg) fun r s' hq=>?_)
  obtain⟨rfl,h2,h3,h4⟩:=hq
  exact⟨.inl ⟨.bool true,.bool true,[],rfl,fun _=>rfl,.bool true,M8 l _,fun _=>⟨List.Pairwise.nil,fun _ hm=>(nomatch hm)⟩⟩,h2,h3,h4⟩
end Att
namespace PD
open PySem PySem.Spec PyProof.Rows L2
theorem kL {K:Frag}{H:Hp}{st:Bool}:∀ (ns:List Int),Reps K st H (ns.map D.int) (ns.map V.int) []
  | []=>by simp only [List.map_nil,Reps];exact⟨trivial,trivial⟩
  | n :: ns=>by simp only [List.map_cons,Reps];exact⟨.int n,ns.map V.int,[],[],rfl,rfl,fZ,kL ns⟩
noncomputable def dS (i j:Int):Prop:=0 <= j /\ (Builtin.Int.intBits i:Int) + j <= 2 ^ 27
theorem eZ {X:Cx}:OpR X (binaryOp .LShift) (rI dS fun i j=>.int (i * 2 ^ j.toNat)):=opI fun _ _ _ _ _ _ _ hc q=>PyProof.Rows.lshift_int hc.1 hc.2 q
theorem vP {i j:Int}{n:Nat}(h:Builtin.Int.intBits i <= n) (h0:0 <= j) (h1:(n:Int) + j <= 100000000):dS i j:=by
  have e:(2:Int) ^ 27=134217728:=by decide
  refine⟨h0,?_⟩
  rw [e]
  omega
theorem mJ {j:Int}(h0:0 <= j) (h1:j <= 1000000):dS 1 j:=vP (n:=64) (PySem.intBits_le_64 (by decide) (by decide)) h0 (by omega)
theorem qp {X:Cx}{e:Expr}{f:En->Option D}(h:QE X true [] e f):QE X true [] e f:=h
open PySem PySem.Spec PyProof.Rows L2 PySem.SeqAt
section
variable {X:Cx}{pins:List (Addr × Obj)}{σ:L2.St}{H:Hp}{s:Shared}
theorem X6 {p:Addr}{xs ys:Array Value}(h1:s.heap.IsTuple p xs) (h2:s.heap.IsList p ys):False:=by
  obtain⟨o,a1,a2,_⟩:=h1
  obtain⟨o',b1,b2,_⟩:=h2
  rw [a1] at b1
  cases b1
  rw [a2] at b2
  exact absurd b2 (by simp)
noncomputable def vW:D->Prop
  | .obj _ _ _=>False
  | .dk _ _=>False
  | .dt _ _=>False
  | .exc _=>False
  | .fn _ _ _=>False
  | _=>True
theorem Z1m {n:Nat}{C:Addr}{ns:List Str}{xs:List D}{x:D}:eqN n (.obj C ns xs) x=none:=by cases n <;> cases x <;> simp only [eqN]
theorem Z2G {n:Nat}{ns:List Key}{xs:List D}{x:D}:eqN n (.dk ns xs) x=none:=by cases n <;> cases x <;> simp only [eqN]
theorem Z2F {n:Nat}{ns:List (List Key)}{xs:List D}{x:D}:eqN n (.dt ns xs) x=none:=by cases n <;> cases x <;> simp only [eqN]
theorem Z1n {n:Nat}{C:Addr}{x:D}:eqN n (.exc C) x=none:=by cases n <;> cases x <;> simp only [eqN]
theorem Z2E {n:Nat}{a:Addr}{vs:List V}{ds:List D}{x:D}:eqN n (.fn a vs ds) x=none:=by cases n <;> cases x <;> simp only [eqN]
theorem tR {n:Nat}{a x:D}{k:Bool}(e:eqN n a x=some k):vW a:=by
  cases a with
  | obj C ns xs=>rw [Z1m] at e;cases e
  | dk ns xs=>rw [Z2G] at e;cases e
  | dt ns xs=>rw [Z2F] at e;cases e
  | exc C=>rw [Z1n] at e;cases e
  | fn _ _ _=>rw [Z2E] at e;cases e
  | _=>trivial
theorem U1 {st1 st2:Bool}(I:Inv X pins σ H s) {a b:D}{v:V}{f1 f2:List Addr}(ra:Rep X.K st1 H a v f1) (rb:Rep X.K st2 H b v f2) (ha:vW a) (hb:vW b) :
    a=b \/ (∃ xs ys vs g1 g2,a=.tup xs /\ b=.tup ys /\ Reps X.K st1 H xs vs g1 /\ Reps X.K st2 H ys vs g2) \/ (∃ xs ys vs g1 g2,a=.lst xs /\ b=.lst ys /\ Reps X.K st1 H xs vs g1 /\ Reps X.K st2 H ys vs g2):=by
  have tl:∀ {xs ys:List D}{st st':Bool}{v:V}{g g':List Addr},Rep X.K st H (.tup xs) v g->Rep X.K st' H (.lst ys) v g'->False:=by
    intro xs ys st st' v g g' r1 r2
    simp only [Rep] at r1
    obtain⟨p,vs,rfl,hs,_⟩:=r1
    obtain⟨p',us,_,e,hs',_,_⟩:=bP r2
    cases e
    obtain⟨_,_,pl,_⟩:=I.tuple hs
    obtain⟨_,_,pl2,_⟩:=I.list hs'
    exact X6 pl pl2.isList
  have sc:∀ {d:D}{st:Bool}{v:V}{g:List Addr},Rep X.K st H d v g->vW d->(∀ p,v ≠ .ref p)->(d=.non /\ v=.non) \/ (∃ b,d=.bl b /\ v=.bl b) \/ (∃ i,d=.int i /\ v=.int i) \/ (∃ z,d=.str z /\ v=.str z):=by
    intro d st v g r ho hv
    cases d with
    | non=>exact .inl ⟨rfl,fU r⟩
    | bl b=>exact .inr (.inl ⟨b,rfl,eU r⟩)
    | int b=>exact .inr (.inr (.inl ⟨b,rfl,bJ r⟩))
    | str b=>exact .inr (.inr (.inr ⟨b,rfl,eY r⟩))
    | tup xs=>simp only [Rep] at r;obtain⟨p,_,e,_⟩:=r;exact absurd e (hv p)
    | lst xs=>obtain⟨p,_,_,e,_⟩:=bP r;exact absurd e (hv p)
    | obj _ _ _=>exact ho.elim
    | dk _ _=>exact ho.elim
    | dt _ _=>exact ho.elim
    | exc _=>exact ho.elim
    | fn _ _ _=>exact ho.elim
  by_cases hv:∃ p,v=.ref p
  . obtain⟨p,rfl⟩:=hv
    cases a with
    | non=>have:=fU ra;cases this
    | bl b=>have:=eU ra;cases this
    | int b=>have:=bJ ra;cases this
    | str b=>have:=eY ra;cases this
    | obj _ _ _=>exact ha.elim
    | dk _ _=>exact ha.elim
    | dt _ _=>exact ha.elim
    | exc _=>exact ha.elim
    | fn _ _ _=>exact ha.elim
    | tup xs =>
      cases b with
      | non=>have:=fU rb;cases this
      | bl b=>have:=eU rb;cases this
      | int b=>have:=bJ rb;cases this
      | str b=>have:=eY rb;cases this
      | obj _ _ _=>exact hb.elim
      | dk _ _=>exact hb.elim
      | dt _ _=>exact hb.elim
      | exc _=>exact hb.elim
      | fn _ _ _=>exact hb.elim
      | lst ys=>exact (tl ra rb).elim
      | tup ys =>
        simp only [Rep] at ra rb
        obtain⟨q,vs,e,hs,hr⟩:=ra
        obtain⟨q',us,e',hs',hr'⟩:=rb
        cases e
        cases e'
        obtain rfl:=I.tuple_inj hs hs'
        exact .inr (.inl ⟨xs,ys,_,_,_,rfl,rfl,hr,hr'⟩)
    | lst xs =>
      cases b with
      | non=>have:=fU rb;cases this
      | bl b=>have:=eU rb;cases this
      | int b=>have:=bJ rb;cases this
      | str b=>have:=eY rb;cases this
      | obj _ _ _=>exact hb.elim
      | dk _ _=>exact hb.elim
      | dt _ _=>exact hb.elim
      | exc _=>exact hb.elim
      | fn _ _ _=>exact hb.elim
      | tup ys=>exact (tl rb ra).elim
      | lst ys =>
        obtain⟨q,vs,_,e,hs,hr,_⟩:=bP ra
        obtain⟨q',us,_,e',hs',hr',_⟩:=bP rb
        cases e
        cases e'
        obtain rfl:=I.list_inj hs hs'
        exact .inr (.inr ⟨xs,ys,_,_,_,rfl,rfl,hr,hr'⟩)
  . have hv':∀ p,v ≠ .ref p:=fun p e=>hv ⟨p,e⟩
    left
    rcases sc ra ha hv' with ⟨rfl,h⟩ | ⟨b',rfl,h⟩ | ⟨i,rfl,h⟩ | ⟨z,rfl,h⟩ <;> rcases sc rb hb hv' with ⟨rfl,k⟩ | ⟨b'',rfl,k⟩ | ⟨j,rfl,k⟩ | ⟨y,rfl,k⟩ <;> first | rfl | (have z:=h.symm.trans k;cases z;rfl) | (have z:=h.symm.trans k;cases z;done)
theorem Z07 {st1 st2:Bool}(I:Inv X pins σ H s):∀ (n:Nat) (a b x:D) (v:V) (f1 f2:List Addr) (k k':Bool),Rep X.K st1 H a v f1->Rep X.K st2 H b v f2->eqN n a x=some k->eqN n b x=some k'->k=k':=by
  intro n
  induction n with
  | zero=>intro a b x v f1 f2 k k' _ _ e;simp [eqN] at e
  | succ n ih =>
    have seq:∀ (xs ys zs:List D) (vs:List V) (f1 f2:List Addr) (k k':Bool),Reps X.K st1 H xs vs f1->Reps X.K st2 H ys vs f2->eqL (eqN n) xs zs=some k->eqL (eqN n) ys zs=some k'->k=k':=by
      intro xs
      induction xs with
      | nil =>
        intro ys zs vs f1 f2 k k' r1 r2 e e'
        have l1:=r1.length
        have l2:=r2.length
        have:ys=[]:=by rw [<- List.length_eq_zero_iff,<- l2,l1];rfl
        subst this
        rw [e] at e';cases e';rfl
      | cons x xs ihx =>
        intro ys zs vs f1 f2 k k' r1 r2 e e'
        cases ys with
        | nil =>
          have l1:=r1.length
          have l2:=r2.length
          rw [l1] at l2;simp at l2
        | cons y ys =>
          cases zs with
          | nil=>simp only [eqL] at e e';cases e;cases e';rfl
          | cons z zs =>
            simp only [Reps] at r1 r2
            obtain⟨v,us,g1,g2,rfl,_,a1,a2⟩:=r1
            obtain⟨v',us',g3,g4,e0,_,b1,b2⟩:=r2
            cases e0
            simp only [eqL] at e e'
            split at e
            . rename_i c d h1 h2
              cases e
              split at e'
              . rename_i c' d' h1' h2'
                cases e'
                rw [ih _ _ _ _ _ _ _ _ a1 b1 h1 h1',ihx _ _ _ _ _ _ _ a2 b2 h2 h2']
              . cases e'
            . cases e
    intro a b x v f1 f2 k k' ra rb e e'
    have ha:=tR e
    have hb:=tR e'
    rcases U1 I ra rb ha hb with rfl | ⟨xs,ys,vs,g1,g2,rfl,rfl,r1,r2⟩ | ⟨xs,ys,vs,g1,g2,rfl,rfl,r1,r2⟩
    . rw [e] at e';cases e';rfl
    . have l1:=r1.length
      have l2:=r2.length
      cases x with
      | tup zs =>
        simp only [eqN] at e e'
        cases h1:eqL (eqN n) xs zs with
        | none=>rw [h1] at e;cases e
        | some c =>
          cases h2:eqL (eqN n) ys zs with
          | none=>rw [h2] at e';cases e'
          | some c' =>
            rw [h1] at e;rw [h2] at e'
            cases e;cases e'
            rw [seq _ _ _ _ _ _ _ _ r1 r2 h1 h2,<- l1,<- l2]
      | non=>simp only [eqN] at e e';cases e;cases e';rfl
      | _=>simp only [eqN] at e;cases e
    . have l1:=r1.length
      have l2:=r2.length
      cases x with
      | lst zs =>
        simp only [eqN] at e e'
        by_cases hl:vs.length=zs.length
        . rw [if_pos (by omega)] at e e'
          exact seq _ _ _ _ _ _ _ _ r1 r2 e e'
        . rw [if_neg (by omega)] at e e'
          cases e;cases e';rfl
      | non=>simp only [eqN] at e e';cases e;cases e';rfl
      | _=>simp only [eqN] at e;cases e
end
noncomputable def inD (x:D):List D->Option Bool
  | []=>some false
  | y :: ys=>match eqN 8 y x,inD x ys with
    | some a,some b=>some (a || b)
    | _,_=>none
theorem E6 {x:D}:∀ {ys:List D}{k:Bool},inD x ys=some k->(∀ (i:Nat) (y:D),ys[i]? = some y->∃ c,eqN 8 y x=some c) /\ (k=true ↔ ∃ (i:Nat) (y:D),ys[i]? = some y /\ eqN 8 y x=some true)
  | [],k,h=>by simp only [inD] at h;cases h;exact⟨fun i y e=>by simp at e,by simp⟩
  | y :: ys,k,h=>by
    simp only [inD] at h
    split at h
    . rename_i a b h1 h2
      cases h
      obtain⟨g1,g2⟩:=E6 h2
      refine⟨fun i z e=>?_,?_⟩
      . cases i with
        | zero=>simp at e;subst e;exact⟨a,h1⟩
        | succ i=>exact g1 i z (by simpa using e)
      . rw [Bool.or_eq_true,g2]
        constructor
        . rintro (z | ⟨i,z,e1,e2⟩)
          . exact⟨0,y,rfl,by rw [h1,z]⟩
          . exact⟨i + 1,z,by simpa using e1,e2⟩
        . rintro⟨i,z,e1,e2⟩
          cases i with
          | zero=>simp at e1;subst e1;rw [h1] at e2;cases e2;exact .inl rfl
          | succ i=>exact .inr ⟨i,z,by simpa using e1,e2⟩
    . cases h
section
variable {X:Cx}{pins:List (Addr × Obj)}{σ:L2.St}{H:Hp}{s:Shared}
theorem Z6 {st1 st2:Bool}(I:Inv X pins σ H s) {A:Around}{x:D}{ys:List D}{v:V}{vs:List V}{u:Value}{its:List Value}{f g:List Addr}{k:Bool}(hu:A.units + 8 <= cLine) (rx:Rep X.K st1 H x v f) (rv:RelV v u) (r:Reps X.K st2 H ys vs g) (w:Vals vs its) (h:inD x ys=some k) :
    ∃ e:Value->Bool,(∀ y ∈ its,EqAt A s y u (e y)) /\ its.any e=k:=by
  obtain⟨h1,h2⟩:=E6 h
  classical
  have at_:∀ (i:Nat) (y:Value),its[i]? = some y->∃ (z:D) (vz:V) (fz:List Addr),ys[i]? = some z /\ Rep X.K st2 H z vz fz /\ RelV vz y:=by
    intro i y e
    have hi:i < its.length:=(List.getElem?_eq_some_iff.mp e).1
    have l1:=r.length
    have l2:=w.length
    have hy:i < ys.length:=by omega
    obtain⟨vz,fz,a1,a2,_⟩:=r.get (List.getElem?_eq_getElem hy)
    obtain⟨y',c1,c2⟩:=w.get a1
    rw [e] at c1;cases c1
    exact⟨_,vz,fz,List.getElem?_eq_getElem hy,a2,c2⟩
  let e:Value->Bool:=fun y=>decide (∃ (i:Nat) (z:D),its[i]? = some y /\ ys[i]? = some z /\ eqN 8 z x=some true)
  have key:∀ (i:Nat) (y:Value) (z:D) (c:Bool),its[i]? = some y->ys[i]? = some z->eqN 8 z x=some c->e y=c:=by
    intro i y z c a1 a2 a3
    by_cases hh:∃ (i:Nat) (z:D),its[i]? = some y /\ ys[i]? = some z /\ eqN 8 z x=some true
    . have:e y=true:=decide_eq_true hh
      rw [this]
      obtain⟨j,z',b1,b2,b3⟩:=hh
      obtain⟨z1,v1,g1,c1,c2,c3⟩:=at_ i y a1
      obtain⟨z2,v2,g2,d1,d2,d3⟩:=at_ j y b1
      rw [a2] at c1;cases c1
      rw [b2] at d1;cases d1
      have hvv:v1=v2:=RelV.inj c3 d3
      subst hvv
      exact (Z07 I 8 _ _ _ _ _ _ _ _ d2 c2 b3 a3)
    . have:e y=false:=decide_eq_false hh
      rw [this]
      cases c with
      | false=>rfl
      | true=>exact absurd ⟨i,z,a1,a2,a3⟩ hh
  refine⟨e,fun y hy=>?_,?_⟩
  . obtain⟨i,hi⟩:=List.getElem?_of_mem hy
    obtain⟨z,vz,g,c1,c2,c3⟩:=at_ i y hi
    obtain⟨c,hc⟩:=h1 i z c1
    rw [key i y z c hi c1 hc]
    exact (Z06 I 8 A z x vz v y u g f c hu c2 rx c3 rv hc).1
  . rw [Bool.eq_iff_iff,List.any_eq_true,h2]
    constructor
    . rintro⟨y,hy,he⟩
      have:=of_decide_eq_true he
      obtain⟨i,z,_,a2,a3⟩:=this
      exact⟨i,z,a2,a3⟩
    . rintro⟨i,z,a2,a3⟩
      have l1:=r.length
      have l2:=w.length
      have hi:i < its.length:=by have:=(List.getElem?_eq_some_iff.mp a2).1;omega
      exact⟨its[i],List.getElem_mem hi,by rw [key i _ z true (List.getElem?_eq_getElem hi) a2 a3]⟩
end
section
variable {X:Cx}{m m' m1 m2:Bool}{rs rs' rs1 rs2:List Nat}{e a b c:Expr}{fa fb:En->Option D}{pos:Pos}
noncomputable def inF:D->D->Option Bool
  | x,.lst ys=>inD x ys
  | x,.tup ys=>inD x ys
  | .str i,.str j=>some (!(Builtin.Str.occurrences j i 0 j.length 1).isEmpty)
  | _,_=>none
noncomputable def fIn (fa fb:En->Option D):En->Option Bool:=fun env=>match fa env,fb env with
  | some x,some y=>inF x y
  | _,_=>none
noncomputable def Z45 (neg:Bool) (K:Frag):R2:=fun v u H Q=>∃ a b f1 f2 k st1 st2,Rep K st1 H a v f1 /\ Rep K st2 H b u f2 /\ inF a b=some k /\ Q (.bl (if neg then !k else k)) H
theorem N1 (hu:X.A.units + 9 <= cLine):OpR X (compareOp .NotIn) (Z45 true X.K):=by
  rintro pins s σ H x y v u Q I rx ry ⟨a,b,f1,f2,k,st1,st2,r1,r2,e,q⟩
  cases b with
  | lst ys =>
    obtain⟨p,vs,_,rfl,hs,hr,_⟩:=bP r2
    cases ry
    obtain⟨its,w,pl,hz⟩:=I.list hs
    obtain⟨ee,h1,h2⟩:=Z6 (A:=X.A.in1) I (by rw [pD];omega) r1 rx hr w (show inD a ys=some k from e)
    refine SeqAt.notIn_listAt ee pl.isList (fun y hy=>h1 y (by simpa using hy)) ⟨.bl _,H,I,rfl,?_⟩
    rw [show its.toArray.any ee=its.any ee by simp,h2]
    exact q
  | tup ys =>
    simp only [Rep] at r2
    obtain⟨p,vs,rfl,hs,hr⟩:=r2
    cases ry
    obtain⟨its,w,pl,hz⟩:=I.tuple hs
    obtain⟨ee,h1,h2⟩:=Z6 (A:=X.A.in1) I (by rw [pD];omega) r1 rx hr w (show inD a ys=some k from e)
    refine SeqAt.notIn_tupleAt ee pl (fun y hy=>h1 y (by simpa using hy)) ⟨.bl _,H,I,rfl,?_⟩
    rw [show its.toArray.any ee=its.any ee by simp,h2]
    exact q
  | str j =>
    cases a with
    | str i =>
      have e1:=eY r1
      have e2:=eY r2
      subst e1 e2
      have e3:k=_:=(Option.some.inj e).symm
      subst e3
      exact uY pins s σ H _ _ v u Q I rx ry ⟨i,j,rfl,rfl,q⟩
    | _=>simp only [inF] at e;cases e
  | _=>cases a <;> (simp only [inF] at e;cases e)
theorem xY {env:En}{bb:Bool}(e:fIn fa fb env=some bb):∃ x y,fa env=some x /\ fb env=some y /\ inF x y=some bb:=by
  unfold fIn at e
  split at e
  . rename_i x y h1 h2;exact⟨x,y,h1,h2,e⟩
  . cases e
theorem wT (hu:X.A.units + 9 <= cLine) (ha:QE X m1 rs1 a fa) (hb:QE X m2 rs2 b fb) (hm:behindInMarks .NotIn b=false:=by with_unfolding_all rfl):QT X (.Compare a [.NotIn] [b] pos) (iN (fIn fa fb)) :=
  rF (N1 hu) ha hb hm (fun env x y K H v u f1 f2 Q bb e ea eb r1 r2 hK q=>by
    subst hK
    unfold iN at e
    cases h:fIn fa fb env with
    | none=>rw [h] at e;cases e
    | some k =>
      rw [h] at e
      cases e
      obtain⟨x',y',h1,h2,h3⟩:=xY h
      rw [ea] at h1;rw [eb] at h2;cases h1;cases h2
      exact⟨x,y,f1,f2,k,_,_,r1,r2,h3,q⟩) fun env bb e=>by
    unfold iN at e
    cases h:fIn fa fb env with
    | none=>rw [h] at e;cases e
    | some k=>obtain⟨x,y,h1,h2,_⟩:=xY h;exact⟨x,y,h1,h2⟩
theorem Z1B {k:Nat}{A:Around}(r:Room k A):A.units + 9 <= cLine:=by have:=r.un;omega
end
noncomputable def whD (c:En->Option Bool) (g:En->Res):Nat->En->Res
  | 0,_=>.bad
  | n + 1,env=>match c env with
    | some false=>.next env
    | some true=>match g env with
      | .next e=>whD c g n e
      | .cont e=>whD c g n e
      | .brk e=>.next e
      | .ret d=>.ret d
      | .bad=>.bad
    | none=>.bad
theorem qS {c:En->Option Bool}{g:En->Res}:∀ {n:Nat}{env:En},whD c g n env ≠ .bad->whD c g (n + 1) env=whD c g n env
  | 0,env,h=>absurd rfl h
  | n + 1,env,h=>by
    unfold whD at h ⊢
    cases hc:c env with
    | none=>rfl
    | some b =>
      cases b with
      | false=>rfl
      | true =>
        rw [hc] at h
        simp only at h ⊢
        cases hg:g env with
        | next e=>rw [hg] at h;exact qS h
        | cont e=>rw [hg] at h;exact qS h
        | brk e=>rfl
        | ret d=>rfl
        | bad=>rfl
theorem yO {c:En->Option Bool}{g:En->Res}{n:Nat}{env:En}(h:whD c g n env ≠ .bad):∀ k,whD c g (n + k) env=whD c g n env
  | 0=>rfl
  | k + 1=>by
    have ih:=yO h k
    rw [show n + (k + 1)=n + k + 1 by omega,qS (by rw [ih];exact h),ih]
theorem Z0q {c:En->Option Bool}{g:En->Res}{n m:Nat}{env:En}(h:whD c g n env ≠ .bad) (h':whD c g m env ≠ .bad):whD c g n env=whD c g m env:=by
  by_cases hl:n <= m
  . have:=yO h (m - n)
    rw [show n + (m - n)=m by omega] at this
    exact this.symm
  . have:=yO h' (n - m)
    rw [show m + (n - m)=n by omega] at this
    exact this
open Classical in
noncomputable def rWh (c:En->Option Bool) (g:En->Res):En->Res:=fun env=>if h:∃ n,whD c g n env ≠ .bad then whD c g (Classical.choose h) env else .bad
theorem U3 {c:En->Option Bool}{g:En->Res}{n:Nat}{env:En}(h:whD c g n env ≠ .bad):rWh c g env=whD c g n env:=by
  unfold rWh
  have hh:∃ n,whD c g n env ≠ .bad:=⟨n,h⟩
  rw [dif_pos hh]
  exact Z0q (Classical.choose_spec hh) h
section
variable {X:Cx}{c:Expr}{c':En->Option Bool}{g:En->Res}{body:List Stmt}{pos:Pos}
theorem U8 (hp:PassesOwn (model X.prog X.w) X.A X.env X.xe) (hc:QT X c c') (hb:QSs X body g):QS X (.While c body [] pos) (rWh c' g) :=
  .mk (W1 hp hc hb) fun E σ H ⟨P,env,I,q⟩=>by
    by_cases hh:∃ n,whD c' g n env ≠ .bad
    . obtain⟨n,hn⟩:=hh
      rw [U3 hn] at q
      refine⟨fun m σ' H'=>∃ env',SInv X.K P H' σ' env' /\ Z0m X.K P E (whD c' g m env'),⟨n,env,I,q⟩,?_⟩
      rintro m σ' H' ⟨env',I',q'⟩
      cases m with
      | zero=>exact q'.elim
      | succ m =>
        obtain⟨F,hF⟩:=I'.ex
        unfold whD at q'
        cases hc':c' env' with
        | none=>rw [hc'] at q';exact q'.elim
        | some b =>
          rw [hc'] at q'
          refine⟨env',F,b,hF.ok,hc',fun H1 s1=>?_⟩
          cases b with
          | false=>exact q' σ' H1 (I'.grow s1)
          | true =>
            simp only at q'
            refine⟨fun σ2 H2=>∃ env2,SInv X.K P H2 σ2 env2 /\ Z0m X.K P E (whD c' g m env2),fun σ2 H2 ⟨env2,I2,q2⟩=>⟨m,Nat.lt_succ_self _,env2,I2,q2⟩,P,env',I'.grow s1,?_⟩
            cases hg:g env' with
            | next e2=>rw [hg] at q';exact fun σ4 H4 I4=>⟨e2,I4,q'⟩
            | cont e2=>rw [hg] at q';exact fun σ4 H4 I4=>⟨e2,I4,q'⟩
            | brk e2=>rw [hg] at q';exact fun σ4 H4 I4=>q' σ4 H4 I4
            | ret d=>rw [hg] at q';exact q'
            | bad=>rw [hg] at q';exact q'.elim
    . unfold rWh at q
      rw [dif_neg hh] at q
      exact q.elim
end
section
variable {X:Cx}{m m' m1 m2:Bool}{rs rs' rs1 rs2:List Nat}{e a b c o:Expr}{es:List Expr}{f fa fb fo fe:En->Option D}{fs:En->Option (List D)}{pos p apos cpos:Pos}
noncomputable def kD:List D->Option (List Bool)
  | []=>some []
  | .bl x :: r=>(kD r).map (x :: ·)
  | _ :: _=>none
theorem sI {K:Frag}{st:Bool}{H:Hp}:∀ {ds:List D}{ys:List Bool}{vs:List V}{fp:List Addr},kD ds=some ys->Reps K st H ds vs fp->vs=ys.map V.bl
  | [],ys,vs,fp,e,r=>by simp only [kD] at e;cases e;simp only [Reps] at r;rw [r.1];rfl
  | d :: ds,ys,vs,fp,e,r=>by
    simp only [Reps] at r
    obtain⟨v,us,f1,f2,rfl,rfl,r1,r2⟩:=r
    cases d with
    | bl x =>
      simp only [kD] at e
      cases h:kD ds with
      | none=>rw [h] at e;cases e
      | some zs =>
        rw [h] at e
        cases e
        rw [eU r1,sI h r2]
        rfl
    | _=>simp only [kD] at e;cases e
theorem yG:∀ {ys:List Bool}{us:List Value},Vals (ys.map V.bl) us->us=ys.map Value.bool
  | [],_,.nil=>rfl
  | y :: ys,_,.cons r w=>by cases r;rw [yG w];rfl
theorem L7 (ys:List Bool):((List.range ys.length).all fun i=>ys.getD i true)=ys.all id:=by
  rw [Bool.eq_iff_iff,List.all_eq_true,List.all_eq_true]
  constructor
  . intro h y hy
    obtain⟨i,hi⟩:=List.getElem?_of_mem hy
    have:=h i (by simpa using (List.getElem?_eq_some_iff.mp hi).1)
    simpa [List.getD,hi] using this
  . intro h i hi
    have hi':i < ys.length:=by simpa using hi
    have:=h ys[i] (List.getElem_mem hi')
    simpa [List.getD,hi'] using this
theorem Q6 (hc:X.calm=true):CallR X (.builtin "all") (fun vs H Q=>∃ (a:Addr) (ys:List Bool),vs=[.ref a] /\ SqL X.K H a (ys.map V.bl) /\ Q (.bl (ys.all id)) H):=fun pins s σ H xs us Q I w h=>by
  obtain⟨a,ys,rfl,hs,q⟩:=h
  obtain⟨u,rfl,r⟩:=mV w
  cases (show u=Value.ref a from r)
  obtain⟨its,w1,pl,_⟩:=I.list hs
  have hb:=yG w1
  subst hb
  have hl:=pl.isList
  obtain⟨o,ho,_⟩:=id hl
  have hlt:a ≠ s.heap.objs.size:=Nat.ne_of_lt (Heap.lt_size ho)
  refine call_all_walk (wpAny_pyIter_list hl ?_)
  refine⟨s.heap.objs.size,_,_,_,_,_,fun i=>ys.getD i true,rfl,Walks.list (A:=X.A.in1) (I.ok.hd hc) s.heap.objs.size a hlt (ys.map Value.bool).toArray,⟨⟨_,Heap.get?_push_size _ rfl,rfl,rfl⟩,hl.at fun o e=>Heap.get?_push_of_some _ e⟩,?_,fun h' tk hk=>?_⟩
  . intro i v s' Q' E' hv hq
    have hv':(ys.map Value.bool)[i]? = some v:=by simpa using hv
    rw [List.getElem?_map] at hv'
    cases hy:ys[i]? with
    | none=>rw [hy] at hv';cases hv'
    | some y =>
      rw [hy] at hv'
      cases hv'
      have hq':Q' y s':=by simpa [List.getD,hy] using hq
      exact wpAny_truthy_bool hq'
  . have hk':∀ b o,s.heap.get? b=some o->h'.get? b=some o:=fun b o e=>hk b o (fun hm=>by
      have:b=s.heap.objs.size:=by simpa using hm
      exact absurd (Heap.lt_size e) (by rw [this];exact Nat.lt_irrefl _)) (Heap.get?_push_of_some _ e)
    refine⟨.bl (ys.all id),H,I.kept hk',?_,q⟩
    have e1:=L7 ys
    show Value.bool _=Value.bool _
    rw [<- e1]
    simp
noncomputable def Z1w:List D->Option D
  | [.lst ds]=>(kD ds).map fun ys=>.bl (ys.all id)
  | _=>none
theorem Z2c {p:Pos}(hcm:X.calm=true) (hg:Gl X "all") (hm:X.mg "all" = none) (ha:QE X m1 rs1 a fa) (he:starEach [a] X.env=(false,eval a X.env) :: starEach [] X.env:=by rfl) (hpl:(backTo pos (starEach [] X.env)).any (·.1)=false:=by rfl) :
    QE X m rs (.Call (.Name "all" p) [a] [] pos) (fun env=>(aC fa aL env).bind Z1w) :=
  kN (Q6 hcm) hg hm PyProof.Rows.boot_all (aD ha aK he) (fun ds d vs H fp Q e r q=>by
    unfold Z1w at e
    split at e
    . rename_i ds'
      cases hq:kD ds' with
      | none=>rw [hq] at e;cases e
      | some ns =>
        rw [hq] at e
        cases e
        obtain⟨v,rfl,r1⟩:=iP r
        obtain⟨p,ws,fp',rfl,hsq,hr,hsub⟩:=bP r1
        rw [sI hq hr] at hsq
        exact⟨p,ns,rfl,hsq,q _ _ [] (Same.refl H) lY (fun b hb=>(by cases hb)) List.nodup_nil⟩
    . cases e) (he:=he) (hpl:=hpl)
end
section
variable {X:Cx}{tg:Expr}{m1:Bool}{rs:List Nat}{a:Expr}{fa:En->Option D}
end
noncomputable def esK:List (Str × Int)->List DictEntry->Prop
  | [],[]=>True
  | p :: kvs,e :: es=>((∃ t,e.key=.str p.1 t) /\ ∃ t,e.val=.int p.2 t) /\ esK kvs es
  | _,_=>False
structure Z4j (K:Frag) (P:Params) (mg:Str->Option Value) (name:Str) (kvs:List (Str × Int)):Prop where
  ex:∃ a es n,mg name=some (.ref a) /\ K.lookup a=some ⟨.type "dict",none,.dict es n,#[]⟩ /\ PySem.W.KeysLit P es.toList /\ (a == sysModules)=false /\ esK kvs es.toList
section
variable {X:Cx}{m m' m1 m2:Bool}{rs rs' rs1 rs2:List Nat}{e:Expr}{fe:En->Option D}{p apos cpos:Pos}{nm:Str}{kvs:List (Str × Int)}
end
structure Z4l (K:Frag) (C:Addr):Prop where
  cl:Cls K C
  ha:PySem.W.findIn K (.ref C) "__class__" = some (some (.builtin "object.__class__"))
  hn:PySem.W.specialIn K (.builtin "object.__class__") "__get__" = some (some (.builtin "getset_descriptor.__get__"))
  htk:PySem.W.takesIn K (.builtin "object.__class__")=some true
  hm:PySem.W.mroIn K C (.type "object")=some true
open Classical in
section
variable {X:Cx}{m m1:Bool}{rs rs1:List Nat}{a:Expr}{fa:En->Option D}{p p2 pos:Pos}{cn:Str}{C:Addr}
end
section
variable {X:Cx}{m m1:Bool}{rs rs1:List Nat}{e:Expr}{f:En->Option D}{p pos pos' bpos:Pos}{x y:Str}{i j:Nat}
noncomputable def kZ (j i:Nat) (f:En->Option D):En->Res:=fun env=>match env[i]?,f env with
  | some (some (true,.lst xs)),some (.lst ys)=>if flats xs=true /\ xs.length + ys.length <= 1000 then .next (env.set j (some (true,.lst (xs ++ ys)))) else .bad
  | _,_=>.bad
theorem Z0c {K:Frag}{P H:Hp}{σ:L2.St}{env:En}{F:Nat->List Addr}{xs ys:List D}{Q:VK}(hF:EnvS K P H σ env F) (ei:env[i]? = some (some (true,.lst xs))) (ef:f env=some (.lst ys)) (hx:flats xs=true) (hl:xs.length + ys.length <= 1000)
    (q:∀ v H' fp,Same H H'->Rep K true H' (.lst (xs ++ ys)) v fp->fp.Nodup->(∀ b ∈ fp,H b=none)->Q v H'):∃ v,σ[i]? = some (some v) /\ tD K true [] f σ H fun u H2=>Z35 v u H2 Q:=by
  obtain⟨v,hv1,_⟩:=hF.ok i true _ ei
  obtain⟨a1,a2,a3,a4⟩:=hF.own i _ ei
  obtain⟨a,vs,g1,rfl,eg,ha,hr⟩:=jC (a3 v hv1)
  obtain⟨rfl,hr0⟩:=Reps.flat _ _ _ hx hr
  refine⟨.ref a,hv1,env,F,.lst ys,hF.ok,ef,fun u H2 f2 s2 r2 c2=>?_⟩
  obtain⟨b,us,g2,rfl,rfl,hb,hr2⟩:=jC r2
  have hc2:=c2.2 rfl
  refine⟨a,b,vs,us,rfl,rfl,s2 _ _ ha,hb,mM (by rw [hr.length,hr2.length];exact hl),fun p hp=>?_⟩
  have hr3:Reps K true H2 (xs ++ ys) (vs ++ us) ([] ++ g2):=((hr0 true).same s2).append hr2
  rw [List.nil_append] at hr3
  refine q _ _ (p :: g2) (s2.trans (cC hp)) (lX hp hr3) ?_ fun c hc=>?_
  . refine List.nodup_cons.mpr ⟨fun z=>?_,(List.nodup_cons.mp hc2.1).2⟩
    obtain⟨o,ho⟩:=Reps.dom _ _ _ hr2 p z
    rw [hp] at ho;cases ho
  . rcases List.mem_cons.mp hc with z | z
    . rw [z];exact s2.free hp
    . exact hc2.2 c (List.mem_cons_of_mem _ z)
theorem tQ (j i:Nat) (hNd:X.N.Nodup) (hj:X.N[j]? = some y) (hy:Loc X.env.scope y) (he:QE X true [] e f) (hN:X.N[i]? = some x:=by rfl) (hv:Vis X.env.scope x:=by first | exact Or.inl rfl | exact Or.inr (Or.inl rfl) | exact Or.inr (Or.inr rfl)) (hd:(x == ("__debug__" : Str))=false:=by decide) (hcd:(x == ("__classdict__" : Str))=false:=by decide)
    (hs:swapsWith (.BinOp (.Name x p) .Add e bpos) (some (.Name y pos')) pos.line X.env=pure false:=by rfl) (hf:X.fn y=true \/ X.env.scope.names.lookup y=some .local:=by first | exact .inl rfl | exact .inr rfl | assumption) :
    QS X (.Assign [.Name y pos'] (.BinOp (.Name x p) .Add e bpos) pos) (kZ j i f):=.mk (zJ hNd hj hy (L2.pe_op X1 (iK hN hv hd hcd) he) hs hf) fun E σ H ⟨P,env,I,q⟩=>by
  obtain⟨F,hF⟩:=I.ex
  unfold kZ at q
  split at q
  . rename_i xs ys ei ef
    split at q
    . rename_i h
      exact Z0c hF.nrm ei ef h.1 h.2 fun v H' fp s r nd fr=>q _ _ (tK j I.same I.len hF.nrm s r nd fr)
    . exact q.elim
  . exact q.elim
end
section
variable {prog:Program}{w:World}{A:Around}{E:Value->Shared->Prop}{s:Shared}
end
noncomputable def Itd (lo:Int) (n:Nat):It:=⟨fun i _=>i < n,fun i H x H'=>H'=H /\ x=.int (lo - i),fun i _=>n <= i⟩
theorem K2 {P:Program}{w:World}{K:Frag}{tg:Expr}(it:Addr) (lo:Int) (n:Nat):vV P w K tg (Itd lo n) [it] it (fun i h=>IsRangeIter h it (lo + (i:Nat) * (-1)) ((n:Int) - (i:Nat)) (-1)) where
  mem:=by simp
  obj:=fun i h st b hb=>by
    have e:b=it:=by simpa using hb
    subst e
    exact⟨_,st,fun v z=>by
      have z':Data.fields _=Data.cell v:=z
      cases z'⟩
  keep:=fun i h h' st k=>k it (by simp) _ st
  item:=by
    intro X hP hw hK hc i pins s σ H E I hf st hg
    subst hP hw hK
    obtain⟨f0,f1,f2,f3,f4,f5⟩:=hf it (by simp)
    have W:=Walks.range (prog:=X.prog) (w:=X.w) (I.ok.hd hc) it lo (-1) n
    refine W.item i s _ _ hg st fun v h' tk hv st' kk=>?_
    obtain⟨t,rfl⟩:=hv
    have I1:Inv X pins σ H { s with heap:=h',toks:=tk }:=I.turned (fun b o hb e=>kk b o (by simpa using hb) e) f0 f1 f3 f4 f5
    refine⟨_,rfl,xO (s:={ s with heap:=h',toks:=tk }) (n := "range_iterator") st' rfl rfl (by decide) ⟨.int (lo - i),H,I1,⟨t,?_⟩,⟨rfl,rfl⟩,st',fun b hb=>(hf b hb).1⟩⟩
    rw [show lo + (i:Int) * -1=lo - i by omega]
  done:=by
    intro X hP hw hK hc i pins s σ H E I hf st hg
    subst hP hw hK
    obtain⟨f0,f1,f2,f3,f4,f5⟩:=hf it (by simp)
    exact wpAny_pyNext_range_end (I.ok.hd hc) st (by have:n <= i:=hg;omega) fun h' eb=>⟨rfl,I.turned (t':=s.toks) (fun b o hb e=>eb b o hb e) f0 f1 f3 f4 f5⟩
  self:=fun _ _ _ _ _ st h=>wpAny_pyIter_rangeiter st h
section
variable {X:Cx}{tg:Expr}
end
theorem A6 {K:Frag}{H0:Hp}(lo:Int) (n:Nat):sM K (Itd lo n) H0 ((List.range n).map fun (k:Nat)=>.int (lo - (k:Int))) []:=fun H k i=>by
  refine⟨fun d hd=>?_,fun hl=>(show n <= i by simpa using hl)⟩
  rw [List.getElem?_map] at hd
  cases hdd:(List.range n)[i]? with
  | none=>rw [hdd] at hd;cases hd
  | some j =>
    rw [hdd] at hd
    cases hd
    obtain⟨hlt,e⟩:=List.getElem?_eq_some_iff.mp hdd
    rw [List.getElem_range] at e
    subst e
    refine⟨(show i < n by simpa using hlt),fun x H' y=>?_⟩
    obtain⟨rfl,rfl⟩:=y
    exact⟨Same.refl _,[],fZ,fun b hb=>hb⟩
section
variable {X:Cx}{m1:Bool}{rs rs1:List Nat}{a:Expr}{fs:En->Option (List D)}{pos:Pos}
end
theorem gR:∀ {a b:List Int},a.Perm b->a.Pairwise (· <= ·)->b.Pairwise (· <= ·)->a=b
  | [],b,p,_,_=>(List.nil_perm.mp p).symm
  | x :: a,[],p,_,_=>by have:=p.length_eq;simp at this
  | x :: a,y :: b,p,h1,h2=>by
    have hx:x ∈ y :: b:=p.mem_iff.mp List.mem_cons_self
    have hy:y ∈ x :: a:=p.mem_iff.mpr List.mem_cons_self
    have e1:y <= x:=by
      rcases List.mem_cons.mp hx with z | z
      . omega
      . exact (List.pairwise_cons.mp h2).1 x z
    have e2:x <= y:=by
      rcases List.mem_cons.mp hy with z | z
      . omega
      . exact (List.pairwise_cons.mp h1).1 y z
    have e:x=y:=by omega
    subst e
    rw [gR (List.Perm.cons_inv p) (List.pairwise_cons.mp h1).2 (List.pairwise_cons.mp h2).2]
noncomputable def A3 (x:Int):List Int->List Int
  | []=>[x]
  | y :: r=>if x <= y then x :: y :: r else y :: A3 x r
noncomputable def lQ:List Int->List Int
  | []=>[]
  | x :: r=>A3 x (lQ r)
theorem pC (x:Int):∀ r:List Int,(A3 x r).Perm (x :: r)
  | []=>.refl _
  | y :: r=>by
    unfold A3
    split
    . exact .refl _
    . exact ((pC x r).cons y).trans (.swap x y r)
theorem pT (x:Int):∀ r:List Int,r.Pairwise (· <= ·)->(A3 x r).Pairwise (· <= ·)
  | [],_=>by simp [A3]
  | y :: r,h=>by
    obtain⟨h1,h2⟩:=List.pairwise_cons.mp h
    unfold A3
    split
    . rename_i hxy
      refine List.pairwise_cons.mpr ⟨fun z hz=>?_,h⟩
      rcases List.mem_cons.mp hz with e | e
      . omega
      . have:=h1 z e;omega
    . rename_i hxy
      refine List.pairwise_cons.mpr ⟨fun z hz=>?_,pT x r h2⟩
      have hz':=(pC x r).mem_iff.mp hz
      rcases List.mem_cons.mp hz' with e | e
      . omega
      . exact h1 z e
theorem hJ:∀ r:List Int,(lQ r).Perm r
  | []=>.refl _
  | x :: r=>(pC x (lQ r)).trans ((hJ r).cons x)
theorem iF:∀ r:List Int,(lQ r).Pairwise (· <= ·)
  | []=>.nil
  | x :: r=>pT x _ (iF r)
noncomputable def qO:List D->Option D
  | [.lst ds]=>match lO ds with
    | some ns=>if ns.length < 64 then some (.lst ((lQ ns).map .int)) else none
    | none=>none
  | _=>none
section
variable {X:Cx}{m m1:Bool}{rs rs1:List Nat}{a:Expr}{fa:En->Option D}{pos:Pos}
theorem kF {its:List Value}{ns:List Int}(h:IntsAre its ns):Vals (ns.map V.int) its:=by
  induction h with
  | nil=>exact .nil
  | cons n t h ih=>exact .cons ⟨t,rfl⟩ ih
theorem vR:CallR X (.builtin "sorted") (fun vs H Q=>∃ (a:Addr) (ns:List Int),vs=[.ref a] /\ SqL X.K H a (ns.map V.int) /\ ns.length < 64 /\ ∀ l,H l=none->Q (.ref l) (upd H l (.lst ((lQ ns).map V.int)))):=fun pins s σ H xs us Q I w h=>by
  obtain⟨a,ns,rfl,hs,h64,q⟩:=h
  obtain⟨u,rfl,r⟩:=mV w
  cases (show u=Value.ref a from r)
  obtain⟨its,w1,pl,hz⟩:=I.list hs
  have hi:=rV w1
  have hlen:=w1.length
  have hlen2:=IntsAre.length hi
  refine sorted_ints pl.isList hi (by omega) fun out ns' a1 a2 a3=>?_
  obtain⟨e,he⟩:=sortedAll_at s.heap its out
  have hns:ns'=lQ ns:=gR (a2.trans (hJ ns).symm) a3 (iF ns)
  subst hns
  refine⟨.ref (s.heap.objs.size + 1),_,I.laid (t':=s.toks) (fun b u e=>sortedAll_old e) (Nat.le_succ _) (show ObjOk X.prog X.w _ _ _ (.lst ((lQ ns).map V.int)) from ⟨?_,out.toList,e,kF a1,?_⟩),rfl,q _ (I.hok.fresh (Nat.le_succ _))⟩
  . have:=a2.length_eq
    rw [List.length_map,this]
    rw [List.length_map] at hz
    exact hz
  . rw [Array.toArray_toList]
    exact he
theorem pZ:bootBuiltins "sorted" = some (.builtin "sorted"):=by decide +kernel
theorem M5 {p:Pos}(hg:Gl X "sorted") (hm:X.mg "sorted" = none) (ha:QE X m1 rs1 a fa) (he:starEach [a] X.env=(false,eval a X.env) :: starEach [] X.env:=by rfl) (hpl:(backTo pos (starEach [] X.env)).any (·.1)=false:=by rfl) :
    QE X m rs (.Call (.Name "sorted" p) [a] [] pos) (fB1 qO (aC fa aL)) :=
  kN vR hg hm pZ (aD ha aK he) (fun ds d vs H fp Q e r q=>by
    unfold qO at e
    split at e
    . rename_i ds'
      cases hq:lO ds' with
      | none=>rw [hq] at e;cases e
      | some ns =>
        rw [hq] at e
        simp only at e
        split at e
        . rename_i h64
          cases e
          obtain⟨v,rfl,r1⟩:=iP r
          obtain⟨p,ws,fp',rfl,hsq,hr,hsub⟩:=bP r1
          rw [pA hq hr] at hsq
          refine⟨p,ns,rfl,hsq,h64,fun l hl=>?_⟩
          exact q _ _ [l] (cC hl) (lX hl (kL (lQ ns))) (fun b hb=>by simp at hb;rw [hb];exact hl) (by simp)
        . cases e
    . cases e) (he:=he) (hpl:=hpl)
end
section
variable {X:Cx}{m m' m1 m2:Bool}{rs rs' rs1 rs2:List Nat}{elt iter:Expr}{ifs:List Expr}{scope:Scope}{pos px:Pos}{x:Str}{fr:List Nat}{src:En->Option (List D)}{fc:En->Option Bool}{fe:En->Option D}
variable {i:Nat}{pos':Pos}
end
section
variable {X:Cx}{m m' m1 m2:Bool}{rs rs' rs1 rs2:List Nat}{e:Expr}{f:En->Option D}{pos p pos':Pos}{i:Nat}{x:Str}
end
section
variable {X:Cx}{m m1:Bool}{rs rs1:List Nat}{a:Expr}{fa:En->Option D}
noncomputable def Z0H:V->List V->Hp->VK->Prop:=fun x vs H Q=>∃ i:Int,x=.int i /\ vs=[] /\ Q (.int ((Builtin.Int.intBits i:Nat):Int)) H
theorem N9:MtR X "int.bit_length" Z0H:=by
  intro pins s σ H x vs v us Q I rx rv h
  obtain⟨i,rfl,rfl,q⟩:=h
  obtain⟨t,rfl⟩:=rx
  cases rv
  exact call_int_bit_length ⟨.int ((Builtin.Int.intBits i:Nat):Int),H,I.tok _,⟨_,rfl⟩,q⟩
noncomputable def sE (fa:En->Option D):En->Option D:=fun env=>match fa env with
  | some (.int i)=>some (.int ((Builtin.Int.intBits i:Nat):Int))
  | _=>none
theorem Z0P {apos cpos:Pos}(ha:QE X m1 rs1 a fa) (hbase:attributeBase a "bit_length" X.env (eval a X.env)=eval a X.env:=by rfl) (hline:(apos.endLine == cpos.line)=true:=by rfl) :
    QE X m rs (.Call (.Attribute a "bit_length" apos) [] [] cpos) (sE fa) :=
  .mk (Z2q PySem.F.plainAttrs_int slot_int_bit_length type_int_bit_length N9 ha hbase hline) fun σ H Q ⟨env,F,d,ok,e,q⟩=>by
    unfold sE at e
    split at e
    . rename_i i h1
      cases e
      refine⟨env,F,_,ok,h1,fun v H' fp s r c=>?_⟩
      rw [bJ r]
      exact⟨rfl,i,rfl,rfl,q _ H' [] s fZ .nil⟩
    . cases e
end
section
variable {X:Cx}
variable {m m1:Bool}{rs rs1:List Nat}{a:Expr}{fs:En->Option (List D)}
end
section
variable {X:Cx}{pins:List (Addr × Obj)}{σ:L2.St}{H:Hp}{s:Shared}
end
section
variable {X:Cx}{m m' m1 m2:Bool}{rs rs' rs1 rs2:List Nat}{e a b c:Expr}{fa fb:En->Option D}{pos:Pos}
end
section
variable {X:Cx}{m1 m2:Bool}{rs1 rs2:List Nat}{e k:Expr}{f fk:En->Option D}{pos p p2 p3:Pos}{i:Nat}{x:Str}
end
section
variable {X:Cx}{m1 m2 m3:Bool}{rs1 rs2 rs3:List Nat}{e k l:Expr}{f fk fl:En->Option D}{pos p p3 spos:Pos}{i:Nat}{x:Str}
end
section
variable {X:Cx}{m m1 m2 m3:Bool}{rs rs1 rs2 rs3:List Nat}{a b c:Expr}{fa fb fc:En->Option D}{pos:Pos}{op op':CmpOp}{p p':Int->Int->Bool}
end
end PD
namespace L2
open PySem PySem.Spec PyProof.Rows
noncomputable def Itz (K:Frag) (a b:Addr):It :=
  ⟨fun i H => ∃ xs ys x y, SqL K H a xs /\ SqL K H b ys /\ xs[i]? = some x /\ ys[i]? = some y,
   fun i H v H'=>∃ p x y,H p=none /\ v=.ref p /\ (∀ xs,SqL K H a xs->xs[i]? = some x) /\ (∀ ys,SqL K H b ys->ys[i]? = some y) /\ H'=upd H p (.tup [x,y]),
   fun i H=>∃ xs ys,SqL K H a xs /\ SqL K H b ys /\ (xs.length <= i \/ ys.length <= i)⟩
theorem S8 {P:Program}{w:World}{K:Frag}{elts:List Expr}{k1:Nat}{pos:Pos}(a b z TI TO i1 i2:Addr) (D:ZipApart z TI TO i1 i2 a b) :
    vV P w K (.Tuple elts k1 pos) (Itz K a b) [z,TI,TO,i1,i2] z (fun i h=>IsZip h z TI TO .none /\ IsPair h TI (.ref i1) (.ref i2) /\ (∃ u v,IsPair h TO u v) /\ h.IsListIter i1 a i /\ h.IsListIter i2 b i) where
  mem:=by simp
  obj:=fun i h st c hc=>by
    obtain⟨hz,hT,⟨u,v,hO⟩,h1,h2⟩:=st
    simp only [List.mem_cons,List.not_mem_nil,or_false] at hc
    rcases hc with hc | hc | hc | hc | hc
    . rw [hc];exact⟨_,hz,fun v q=>by cases q⟩
    . rw [hc];exact⟨_,hT,fun v q=>by cases q⟩
    . rw [hc];exact⟨_,hO,fun v q=>by cases q⟩
    . rw [hc];obtain⟨o,e,c,d⟩:=h1;exact⟨o,e,fun v q=>by rw [d] at q;cases q⟩
    . rw [hc];obtain⟨o,e,c,d⟩:=h2;exact⟨o,e,fun v q=>by rw [d] at q;cases q⟩
  keep:=fun i h h' ⟨hz,hT,⟨u,v,hO⟩,h1,h2⟩ k=>⟨k z (by simp) _ hz,k TI (by simp) _ hT,⟨u,v,k TO (by simp) _ hO⟩,h1.at fun o q=>k i1 (by simp) o q,h2.at fun o q=>k i2 (by simp) o q⟩
  item:=by
    intro X hP hw hK hc i pins s σ H E I hf st hg
    subst hP hw hK
    obtain⟨xs,ys,x,y,hqa,hqb,hx,hy⟩:=hg
    obtain⟨its,rv,p,hsz⟩:=I.list hqa
    obtain⟨its2,rv2,p2,hsz2⟩:=I.list hqb
    obtain⟨u,hu,ru⟩:=rv.get hx
    obtain⟨u2,hu2,ru2⟩:=rv2.get hy
    obtain⟨hz,hT,⟨ua,va,hO⟩,h1,h2⟩:=st
    have fz:=hf z (by simp)
    have fO:=hf TO (by simp)
    have f1:=hf i1 (by simp)
    have f2:=hf i2 (by simp)
    refine wpAny_pyNext_zip_item D hz hT hO h1 h2 p.isList p2.isList (x:=u) (y:=u2) (by simpa using hu) (by simpa using hu2) fun h' a1 a2 a3 a4 a5 a6 hk=>?_
    refine⟨_,rfl,wpAny_letOwnedTupleGo_zip (s:={ s with heap:=h' }) a1 fun h'' hz'' hs''=>?_⟩
    have hfr:H s.heap.objs.size=none:=I.fresh
    have lt:∀ b o,s.heap.get? b=some o->b ≠ s.heap.objs.size:=fun b o q=>Nat.ne_of_lt (Heap.lt_size q)
    have kp:∀ b o,b ≠ z->b ≠ TO->b ≠ i1->b ≠ i2->s.heap.get? b=some o->h''.get? b=some o:=fun b o c1 c2 c3 c4 q=>(hs''.2 b c1).trans (hk b o c1 c2 c3 c4 q)
    have hzz:z ≠ s.heap.objs.size:=lt _ _ hz
    have nch:∀ b u,H b=some u->b ≠ z /\ b ≠ TO /\ b ≠ i1 /\ b ≠ i2:=fun b u q=>⟨fun w=>(by rw [w,fz.1] at q;cases q),fun w=>(by rw [w,fO.1] at q;cases q),fun w=>(by rw [w,f1.1] at q;cases q),fun w=>(by rw [w,f2.1] at q;cases q)⟩
    have hin:∀ c,c ∉ [z,TO,i1,i2]->c ≠ z /\ c ≠ TO /\ c ≠ i1 /\ c ≠ i2:=fun c hc=>by simpa using hc
    refine⟨.ref s.heap.objs.size,upd H s.heap.objs.size (.tup [x,y]),?_,rfl,⟨_,x,y,hfr,rfl,fun zs hzs=>by rw [I.list_inj hzs hqa];exact hx,fun zs hzs=>by rw [I.list_inj hzs hqb];exact hy,rfl⟩,
      ⟨hz'',(hs''.2 _ D.TIz).trans (hk _ _ D.TIz D.TITO D.TIi1 D.TIi2 hT),⟨_,_,(hs''.2 _ D.TOz).trans a2⟩,a3.at fun o q=>(hs''.2 i1 D.i1z).trans q,a4.at fun o q=>(hs''.2 i2 D.i2z).trans q⟩,fun c hc=>?_⟩
    . refine Inv.step (s:=s) (h':=h'') (t':=s.toks) (H':=upd H s.heap.objs.size (.tup [x,y])) (g':=s.gens) (d':=s.drawn) (ch:=[z,TO,i1,i2]) I (fun c hc=>?_)
        (fun c o _ _ hc q _=>let ⟨c1,c2,c3,c4⟩:=hin c hc;kp c o c1 c2 c3 c4 q) (fun c o _ _ hc q _=>let ⟨c1,c2,c3,c4⟩:=hin c hc;⟨o.slots,kp c o c1 c2 c3 c4 q⟩)
        (fun c o _ q n=>by rw [aM (lt c o q)];exact n) (fun c o hc q=>let ⟨c1,c2,c3,c4⟩:=hin c hc;⟨o,kp c o c1 c2 c3 c4 q⟩)
        (fun c ys q=>by rw [aM (aR q hfr)];exact q) (fun c o u q=>by rw [aM (aR q hfr)];exact q) (fun c ps q=>⟨#[],by rw [aM (aR q hfr),q];simp⟩) (fun m hm=>?_) (fun c u q=>?_) I.bare
      . simp only [List.mem_cons,List.not_mem_nil,or_false] at hc
        rcases hc with hc | hc | hc | hc
        . rw [hc];exact⟨fz.2.2.2.1,fz.2.1,fz.2.2.2.2.1,fz.2.2.2.2.2⟩
        . rw [hc];exact⟨fO.2.2.2.1,fO.2.1,fO.2.2.2.2.1,fO.2.2.2.2.2⟩
        . rw [hc];exact⟨f1.2.2.2.1,f1.2.1,f1.2.2.2.2.1,f1.2.2.2.2.2⟩
        . rw [hc];exact⟨f2.2.2.2.1,f2.2.1,f2.2.2.2.2.1,f2.2.2.2.2.2⟩
      . obtain⟨o,es,ep,ho,r⟩:=hm
        exact⟨o,es,ep,kp _ o (Ne.symm fz.2.1) (Ne.symm fO.2.1) (Ne.symm f1.2.1) (Ne.symm f2.2.1) ho,r⟩
      . by_cases hb:c=s.heap.objs.size
        . subst hb
          rw [aV] at q;cases q
          refine⟨by show 2 <= sizeLine;decide,[u,u2],.cons ru (.cons ru2 .nil),_,(hs''.2 _ (Ne.symm hzz)).trans a5,rfl,_,rfl⟩
        . rw [aM hb] at q
          refine (I.hok c u q).stay (fun d v hc z=>?_) (fun c z=>by rw [aM (aR z hfr)];exact z) fun c ys z=>by rw [aM (aR z hfr)];exact z
          rcases hc with y | y
          . rw [y] at z ⊢;obtain⟨c1,c2,c3,c4⟩:=nch c u q;exact kp _ _ c1 c2 c3 c4 z
          . obtain⟨c1,c2,c3,c4⟩:=nch d _ y;exact kp _ _ c1 c2 c3 c4 z
    . have hb':c < s.heap.objs.size:=by
        simp only [List.mem_cons,List.not_mem_nil,or_false] at hc
        rcases hc with hc | hc | hc | hc | hc
        . rw [hc];exact Heap.lt_size hz
        . rw [hc];exact Heap.lt_size hT
        . rw [hc];exact Heap.lt_size hO
        . rw [hc];obtain⟨o,q,_⟩:=h1;exact Heap.lt_size q
        . rw [hc];obtain⟨o,q,_⟩:=h2;exact Heap.lt_size q
      rw [aM (Nat.ne_of_lt hb')]
      exact (hf c hc).1
  done:=by
    intro X hP hw hK hc i pins s σ H E I hf st hg
    subst hP hw hK
    obtain⟨xs,ys,hqa,hqb,hx⟩:=hg
    obtain⟨its,rv,p,hsz⟩:=I.list hqa
    obtain⟨its2,rv2,p2,hsz2⟩:=I.list hqb
    obtain⟨hz,hT,⟨ua,va,hO⟩,h1,h2⟩:=st
    have hl:=rv.length
    have hl2:=rv2.length
    have fz:=hf z (by simp)
    have fO:=hf TO (by simp)
    have f1:=hf i1 (by simp)
    have f2:=hf i2 (by simp)
    have hend:its.toArray[i]? = none \/ its2.toArray[i]? = none:=by
      rcases hx with z | z
      . left;simp;omega
      . right;simp;omega
    have hin:∀ c,c ∉ [z,TO,i1,i2]->c ≠ z /\ c ≠ TO /\ c ≠ i1 /\ c ≠ i2:=fun c hc=>by simpa using hc
    have nch:∀ b u,H b=some u->b ≠ z /\ b ≠ TO /\ b ≠ i1 /\ b ≠ i2:=fun b u q=>⟨fun w=>(by rw [w,fz.1] at q;cases q),fun w=>(by rw [w,fO.1] at q;cases q),fun w=>(by rw [w,f1.1] at q;cases q),fun w=>(by rw [w,f2.1] at q;cases q)⟩
    refine wpAny_pyNext_zip_end (I.ok.hd hc) D hz hT hO h1 h2 p.isList p2.isList hend fun h' hk=>⟨rfl,?_⟩
    refine Inv.step (s:=s) (h':=h') (t':=s.toks) (H':=H) (g':=s.gens) (d':=s.drawn) (ch:=[z,TO,i1,i2]) I (fun c hc=>?_)
      (fun c o _ _ hc q _=>let ⟨c1,c2,c3,c4⟩:=hin c hc;hk c o c1 c2 c3 c4 q) (fun c o _ _ hc q _=>let ⟨c1,c2,c3,c4⟩:=hin c hc;⟨o.slots,hk c o c1 c2 c3 c4 q⟩)
      (fun c o _ q n=>n) (fun c o hc q=>let ⟨c1,c2,c3,c4⟩:=hin c hc;⟨o,hk c o c1 c2 c3 c4 q⟩)
      (fun c ys q=>q) (fun c o u q=>q) (fun c ps q=>⟨#[],by rw [q];simp⟩) (fun m hm=>?_) (fun c u q=>?_) I.bare
    . simp only [List.mem_cons,List.not_mem_nil,or_false] at hc
      rcases hc with hc | hc | hc | hc
      . rw [hc];exact⟨fz.2.2.2.1,fz.2.1,fz.2.2.2.2.1,fz.2.2.2.2.2⟩
      . rw [hc];exact⟨fO.2.2.2.1,fO.2.1,fO.2.2.2.2.1,fO.2.2.2.2.2⟩
      . rw [hc];exact⟨f1.2.2.2.1,f1.2.1,f1.2.2.2.2.1,f1.2.2.2.2.2⟩
      . rw [hc];exact⟨f2.2.2.2.1,f2.2.1,f2.2.2.2.2.1,f2.2.2.2.2.2⟩
    . obtain⟨o,es,ep,ho,r⟩:=hm
      exact⟨o,es,ep,hk _ o (Ne.symm fz.2.1) (Ne.symm fO.2.1) (Ne.symm f1.2.1) (Ne.symm f2.2.1) ho,r⟩
    . refine (I.hok c u q).stay (fun d v hc z=>?_) (fun c z=>z) fun c ys z=>z
      rcases hc with y | y
      . rw [y] at z ⊢;obtain⟨c1,c2,c3,c4⟩:=nch c u q;exact hk _ _ c1 c2 c3 c4 z
      . obtain⟨c1,c2,c3,c4⟩:=nch d _ y;exact hk _ _ c1 c2 c3 c4 z
  self:=fun _ _ _ _ _ st h=>wpAny_pyIter_zip st.1 h
theorem Z0e:bootBuiltins "zip" = some (.type "zip"):=by decide +kernel
section
variable {X:Cx}{elts:List Expr}{k1:Nat}{tpos:Pos}
noncomputable def Z4a (K:Frag) (ta:TA):TI:=fun σ H R=>ta σ H fun vs H1=>∃ a b,vs=[.ref a,.ref b] /\ (∃ xs,SqL K H1 a xs) /\ (∃ ys,SqL K H1 b ys) /\ R (Itz K a b) H1
theorem Z2h {l l2:Expr}{ta:TA}{p pos:Pos}(hg:Gl X "zip") (hm:X.mg "zip" = none) (ha:PA X [l,l2] ta) (hs:starEach [l,l2] X.env=[(false,eval l X.env),(false,eval l2 X.env)]:=by rfl) (hs2:starEach [l2] X.env=[(false,eval l2 X.env)]:=by rfl) :
    PI X (.Tuple elts k1 tpos) (.Call (.Name "zip" p) [l,l2] [] pos) (Z4a X.K ta):=by
  intro pins s σ H R I h
  refine Call_ (nF I hg hm Z0e (PyProof.Rows.callWith_type1 (thn (ha pos pins s σ H _ I h) fun us s1 ⟨vs,H1,I1,r1,q1⟩=>?_) (by rw [hs,hs2]) (by rw [hs2];rfl)))
  obtain⟨a,b,rfl,⟨xs,hqa⟩,⟨ys,hqb⟩,q⟩:=q1
  cases r1 with
  | cons r rr =>
    cases rr with
    | cons r' rr =>
      cases rr
      cases r
      cases r'
      obtain⟨its,rv,pl,hz⟩:=I1.list hqa
      obtain⟨its2,rv2,pl2,hz2⟩:=I1.list hqb
      have la:a < s1.heap.objs.size:=by obtain⟨o,e,_⟩:=pl.isList;exact Heap.lt_size e
      have lb:b < s1.heap.objs.size:=by obtain⟨o,e,_⟩:=pl2.isList;exact Heap.lt_size e
      refine call_zip_2 pl.isList pl2.isList fun h' hzp hTI hTO hi1 hi2 hsz hk=>?_
      refine wpAny_pyIter_zip (s:={ s1 with heap:=h' }) hzp ?_
      have I2:Inv X pins σ H1 { s1 with heap:=h' }:=I1.kept (t':=s1.toks) hk
      refine⟨s1.heap.objs.size + 4,[s1.heap.objs.size + 4,s1.heap.objs.size + 2,s1.heap.objs.size + 3,s1.heap.objs.size,s1.heap.objs.size + 1],_,_,H1,rfl,I2,S8 a b _ _ _ _ _ (zipApart_new la lb),⟨hzp,hTI,⟨_,_,hTO⟩,hi1,hi2⟩,fun c hc=>?_,q⟩
      have hb':s1.heap.objs.size <= c:=by
        simp only [List.mem_cons,List.not_mem_nil,or_false] at hc
        rcases hc with hc | hc | hc | hc | hc <;> (rw [hc];first | exact Nat.le_refl _ | exact Nat.le_add_right _ _)
      exact I1.fpOk hb' (I1.hok.fresh hb')
end
theorem mX {i j:Int}:Builtin.Range.rangeSize i j (-1)=if j < i then i - j else 0:=by
  unfold Builtin.Range.rangeSize
  split <;> split <;> simp_all <;> omega
theorem L0 {i j:Int}(h1:-(2 ^ 62) <= i) (h2:i < 2 ^ 62) (h3:-(2 ^ 62) <= j) (h4:j < 2 ^ 62):Builtin.Range.small i j (-1)=true:=by
  have e:=@mX i j
  unfold Builtin.Range.small
  rw [e]
  clear e
  simp only [Builtin.Range.rangeFitsLong,Bool.and_eq_true,decide_eq_true_eq]
  split <;> (refine⟨?_,?_⟩ <;> simp <;> omega)
end L2
namespace PD
open PySem PySem.Spec PyProof.Rows L2
section
variable {X:Cx}{tg:Expr}
noncomputable def Z3r (ta:TA):TI:=fun σ H R=>ta σ H fun vs H1=>∃ i j:Int,vs=[.int i,.int j,.int (-1)] /\ (-(2 ^ 62) <= i /\ i < 2 ^ 62 /\ -(2 ^ 62) <= j /\ j < 2 ^ 62) /\ R (Itd i (i - j).toNat) H1
theorem Z1o {pins:List (Addr × Obj)}{σ:L2.St}{H:Hp}{s:Shared}{R:It->Hp->Prop}{E:Value->Shared->Prop}{lo hi:Int}{t u v:Tok}{tk:Nat}(I:Inv X pins σ H s) (h1:-(2 ^ 62) <= lo) (h2:lo < 2 ^ 62) (h3:-(2 ^ 62) <= hi) (h4:hi < 2 ^ 62)
    (q:R (Itd lo (lo - hi).toNat) H):wpAny (model X.prog X.w) X.A (pyIter (.ref s.heap.objs.size)) (PIE X pins σ tg R) E { s with heap:=s.heap.push { cls:=.type "range",data:=.fields #[.int lo t,.int hi u,.int (-1) v] },toks:=tk }:=by
  refine wpAny_pyIter_range (IsRange.new ..) (L0 h1 h2 h3 h4) ?_
  have I1:Inv X pins σ H { s with heap:=s.heap.push { cls:=.type "range",data:=.fields #[.int lo t,.int hi u,.int (-1) v] },toks:=tk }:=I.kept fun b o e=>Heap.get?_push_of_some _ e
  refine⟨(s.heap.push { cls:=.type "range",data:=.fields #[.int lo t,.int hi u,.int (-1) v] }).objs.size,[(s.heap.push { cls:=.type "range",data:=.fields #[.int lo t,.int hi u,.int (-1) v] }).objs.size],_,_,H,rfl,
    I1.kept (t':=tk) fun b o e=>Heap.get?_push_of_some _ e,K2 _ lo (lo - hi).toNat,?_,fun b hb=>?_,q⟩
  . have e1:lo + ((0:Nat):Int) * (-1)=lo:=by simp
    have e2:(((lo - hi).toNat:Nat):Int) - ((0:Nat):Int)=Builtin.Range.rangeSize lo hi (-1):=by rw [mX];split <;> omega
    show IsRangeIter _ _ (lo + ((0:Nat):Int) * (-1)) ((((lo - hi).toNat:Nat):Int) - ((0:Nat):Int)) (-1)
    rw [e1,e2]
    exact Heap.get?_push_size _ rfl
  . have e:b=(s.heap.push { cls:=.type "range",data:=.fields #[.int lo t,.int hi u,.int (-1) v] }).objs.size:=by simpa using hb
    subst e
    exact I1.fpOk (Nat.le_refl _) (I1.hok.fresh (Nat.le_refl _))
theorem M9 {a b c:Expr}{ta:TA}{p pos:Pos}(hg:Gl X "range") (hm:X.mg "range" = none) (ha:PA X [a,b,c] ta) (hs:starEach [a,b,c] X.env=(false,eval a X.env) :: starEach [b,c] X.env:=by rfl) (hs2:(backTo pos (starEach [b,c] X.env)).any (·.1)=false:=by rfl) :
    PI X tg (.Call (.Name "range" p) [a,b,c] [] pos) (Z3r ta):=by
  intro pins s σ H R I h
  refine Call_ (nF I hg hm boot_range (PyProof.Rows.callWith_type1 (thn (ha pos pins s σ H _ I h) fun us s1 ⟨vs,H1,I1,r1,q1⟩=>?_) hs hs2))
  obtain⟨i,j,e,⟨q1,q2,q3,q4⟩,q⟩:=q1
  subst e
  cases r1 with
  | cons r rr =>
    cases rr with
    | cons r' rr =>
      cases rr with
      | cons r'' rr =>
        cases rr
        obtain⟨t,rfl⟩:=r
        obtain⟨t',rfl⟩:=r'
        obtain⟨t'',rfl⟩:=r''
        exact call_range_3 (by decide) (Z1o I1 q1 q2 q3 q4 q) (Or.inl (PyProof.noPylong_small (by omega)))
end
noncomputable def yM:List D->Option (List D)
  | [.int i,.int j,.int k]=>if (-(2 ^ 62) <= i /\ i < 2 ^ 62 /\ -(2 ^ 62) <= j /\ j < 2 ^ 62) /\ k = -1 then some ((List.range (i - j).toNat).map fun (k:Nat)=>.int (i - (k:Int))) else none
  | _=>none
section
variable {X:Cx}{m m1:Bool}{rs rs1:List Nat}{a b c:Expr}{fa:En->Option D}{fs:En->Option (List D)}{pos:Pos}
theorem Z30 {K:Frag}{H:Hp}{d d' d'':D}{vs:List V}{fp:List Addr}(h:Reps K m H [d,d',d''] vs fp):∃ v v' v'' f f' f'',vs=[v,v',v''] /\ Rep K m H d v f /\ Rep K m H d' v' f' /\ Rep K m H d'' v'' f'' /\ fp=f ++ (f' ++ f''):=by
  simp only [Reps] at h
  obtain⟨v,r,f1,f2,rfl,rfl,h1,v',r',f3,f4,rfl,rfl,h2,v'',r'',f5,f6,rfl,rfl,h3,rfl,rfl⟩:=h
  exact⟨v,v',v'',f1,f3,f5,rfl,h1,h2,h3,by simp⟩
theorem M4 {tg:Expr}{p:Pos}(hg:Gl X "range") (hm:X.mg "range" = none) (ha:QA X m1 rs1 [a,b,c] fs) (hs:starEach [a,b,c] X.env=(false,eval a X.env) :: starEach [b,c] X.env:=by rfl) (hs2:(backTo pos (starEach [b,c] X.env)).any (·.1)=false:=by rfl) :
    QI X tg rs (.Call (.Name "range" p) [a,b,c] [] pos) (sB1 yM fs) :=
  .mk (M9 hg hm ha hs hs2) fun σ H R ⟨env,F,ds,ok,e,q⟩=>by
    unfold sB1 at e
    cases h1:fs env with
    | none=>simp only [h1] at e;cases e
    | some xs =>
      simp only [h1,Option.bind_some] at e
      unfold yM at e
      split at e
      . rename_i i j k
        split at e
        . rename_i hj
          cases e
          refine⟨env,F,_,ok,h1,fun vs H' fp s r c=>?_⟩
          obtain⟨v,v',v'',f,f',f'',rfl,r1,r2,r3,rfl⟩:=Z30 r
          rw [bJ r1,bJ r2,bJ r3,hj.2]
          exact⟨i,j,rfl,hj.1,q _ H' [] s (A6 _ _) (fun b hb=>(by cases hb)) .nil⟩
        . cases e
      . cases e
noncomputable def mT:List D->List D->List D
  | x :: xs,y :: ys=>.tup [x,y] :: mT xs ys
  | _,_=>[]
theorem wE:∀ (xs ys:List D) (i:Nat),(mT xs ys)[i]? = match xs[i]?,ys[i]? with | some x,some y=>some (.tup [x,y]) | _,_=>none
  | [],ys,i=>by simp [mT]
  | x :: xs,[],i=>by
    simp only [mT,List.getElem?_nil]
    split <;> simp_all
  | x :: xs,y :: ys,0=>by simp [mT]
  | x :: xs,y :: ys,i + 1=>by simp only [mT,List.getElem?_cons_succ];exact wE xs ys i
theorem wD:∀ (xs ys:List D),(mT xs ys).length=min xs.length ys.length
  | [],ys=>by simp [mT]
  | x :: xs,[]=>by simp [mT]
  | x :: xs,y :: ys=>by simp only [mT,List.length_cons,wD xs ys];omega
theorem P5 {K:Frag}{H0:Hp}{xs ys:List D}{a b:Addr}{f1 f2:List Addr}(r1:Rep K false H0 (.lst xs) (.ref a) f1) (r2:Rep K false H0 (.lst ys) (.ref b) f2):sM K (Itz K a b) H0 (mT xs ys) (f1 ++ f2):=fun H k i=>by
  have q1:=Rep.keep _ _ _ (k.sub fun b hb=>List.mem_append_left _ hb) r1
  have q2:=Rep.keep _ _ _ (k.sub fun b hb=>List.mem_append_right _ hb) r2
  obtain⟨p,vs,fp',e,hsq,hr,hsub⟩:=bP q1
  cases e
  obtain⟨p',vs',fp'',e,hsq',hr',hsub'⟩:=bP q2
  cases e
  refine⟨fun d hd=>?_,fun hl=>⟨vs,vs',hsq,hsq',by rw [hr.length,hr'.length];rw [wD] at hl;omega⟩⟩
  rw [wE] at hd
  split at hd
  . rename_i x y hx hy
    cases hd
    obtain⟨v,f,h1,h2,h3,_⟩:=hr.get hx
    obtain⟨v',f',h1',h2',h3',_⟩:=hr'.get hy
    refine⟨⟨vs,vs',v,v',hsq,hsq',h1,h1'⟩,fun x H' y=>?_⟩
    obtain⟨q,w,w',hq,rfl,ya,yb,rfl⟩:=y
    have e1:=ya vs hsq
    rw [h1] at e1
    cases e1
    have e2:=yb vs' hsq'
    rw [h1'] at e2
    cases e2
    refine⟨cC hq,f ++ f',oQ hq ?_,fun c hc=>?_⟩
    . simp only [Reps]
      exact⟨v,[v'],f,f',rfl,rfl,h2,v',[],f',[],rfl,by simp,h2',rfl,rfl⟩
    . rcases List.mem_append.mp hc with z | z
      . exact List.mem_append_left _ (hsub c (h3 c z))
      . exact List.mem_append_right _ (hsub' c (h3' c z))
  . cases hd
noncomputable def R6:List D->Option (List D)
  | [.lst xs,.lst ys]=>some (mT xs ys)
  | _=>none
theorem U9 {elts:List Expr}{k1:Nat}{tpos p:Pos}(hg:Gl X "zip") (hm:X.mg "zip" = none) (ha:QA X m1 rs [a,b] fs) (hs:starEach [a,b] X.env=[(false,eval a X.env),(false,eval b X.env)]:=by rfl) (hs2:starEach [b] X.env=[(false,eval b X.env)]:=by rfl) :
    QI X (.Tuple elts k1 tpos) rs (.Call (.Name "zip" p) [a,b] [] pos) (sB1 R6 fs) :=
  .mk (Z2h hg hm ha hs hs2) fun σ H R ⟨env,F,ds,ok,e,q⟩=>by
    unfold sB1 at e
    cases h1:fs env with
    | none=>simp only [h1] at e;cases e
    | some xs =>
      simp only [h1,Option.bind_some] at e
      unfold R6 at e
      split at e
      . cases e
        refine⟨env,F,_,ok,h1,fun vs H' fp s r c=>?_⟩
        obtain⟨v,v',f,f',rfl,r1,r2,rfl⟩:=Z1C r
        have r1':=Rep.weak _ _ _ r1
        have r2':=Rep.weak _ _ _ r2
        obtain⟨p,ws,fp',rfl,hsq,hr,hsub⟩:=bP r1
        obtain⟨p',ws',fp'',rfl,hsq',hr',hsub'⟩:=bP r2
        refine⟨p,p',rfl,⟨ws,hsq⟩,⟨ws',hsq'⟩,q _ H' (f ++ f') s (P5 r1' r2') (fun c hc=>?_) ⟨c.1,fun z=>(by cases z)⟩⟩
        rcases List.mem_append.mp hc with z | z
        . exact Rep.dom _ _ _ r1' c z
        . exact Rep.dom _ _ _ r2' c z
      . cases e
end
noncomputable def keyOf:D->Option Key
  | .int i=>some (.inl i)
  | .str x=>some (.inr x)
  | _=>none
theorem oY {K:Frag}{H:Hp}{st:Bool}{d:D}{k:Key}{v:V}{fp:List Addr}(e:keyOf d=some k) (r:Rep K st H d v fp):v=kV k:=by
  cases d with
  | int i=>cases e;exact bJ r
  | str x=>cases e;exact eY r
  | _=>cases e
section
variable {κ:Type}[DecidableEq κ]
noncomputable def pU {α:Type}:List κ->List α->κ->Option α
  | k' :: ks,d :: ds,k=>if k'=k then some d else pU ks ds k
  | _,_,_=>none
noncomputable def rP (k:κ) (ks:List κ):Bool:=decide (k ∈ ks)
theorem memK_iff {k:κ}{ks:List κ}:rP k ks=true ↔ k ∈ ks:=by unfold rP;simp
noncomputable def zH (ks:List κ) (k:κ):List κ:=if k ∈ ks then ks else ks ++ [k]
noncomputable def rG {α:Type}(ks:List κ) (xs:List α) (k:κ) (x:α):List α:=if k ∈ ks then List.zipWith (fun k' y=>if k'=k then x else y) ks xs else xs ++ [x]
theorem qU {ks:List κ}{vs:List V}{k:κ}:jL (ks.zip vs) k=pU ks vs k:=by
  induction ks generalizing vs with
  | nil=>simp [pU,jL]
  | cons k' ks ih =>
    cases vs with
    | nil=>simp [pU,jL]
    | cons v vs =>
      rw [List.zip_cons_cons]
      unfold pU
      by_cases h:k'=k
      . rw [if_pos h,nM (by exact h)]
      . rw [if_neg h,nN (by exact h)]
        exact ih
theorem Z1t {ks:List κ}{vs:List V}{k:κ}(hl:ks.length=vs.length):((ks.zip vs).any fun kv=>decide (kv.1=k))=decide (k ∈ ks):=by
  induction ks generalizing vs with
  | nil=>simp
  | cons k' ks ih =>
    cases vs with
    | nil=>cases hl
    | cons v vs =>
      rw [List.zip_cons_cons,List.any_cons,ih (by simpa using hl)]
      by_cases h:k'=k
      . subst h;simp
      . have h':¬ k=k':=fun z=>h z.symm
        simp [h,h']
theorem Z18 {ks:List κ}{vs:List V}{k:κ}{v:V}:(ks.zip vs).map (fun kv=>if kv.1=k then (kv.1,v) else kv)=ks.zip (List.zipWith (fun k' y=>if k'=k then v else y) ks vs):=by
  induction ks generalizing vs with
  | nil=>simp
  | cons k' ks ih =>
    cases vs with
    | nil=>simp
    | cons v' vs =>
      simp only [List.zip_cons_cons,List.map_cons,List.zipWith_cons_cons,ih]
      split <;> rfl
theorem V8 {ks:List κ}{vs:List V}{k:κ}{v:V}(hl:ks.length=vs.length):lB (ks.zip vs) k v=(zH ks k).zip (rG ks vs k v):=by
  unfold lB zH rG
  rw [Z1t hl]
  by_cases h:k ∈ ks
  . simp only [h,decide_true,if_true]
    exact Z18
  . simp only [h,decide_false,Bool.false_eq_true,if_false]
    rw [List.zip_append hl]
    rfl
theorem V6 {α:Type}{ks:List κ}{xs:List α}{k:κ}{x:α}(hl:ks.length=xs.length):(zH ks k).length=(rG ks xs k x).length:=by
  unfold zH rG
  split
  . simp [hl]
  . simp [hl]
theorem mR {α:Type}{k:κ}:∀ {ks:List κ}{xs:List α},ks.length=xs.length->(pU ks xs k).isSome=rP k ks
  | [],xs,h=>by simp [pU,rP]
  | k' :: ks,[],h=>by cases h
  | k' :: ks,x :: xs,h=>by
    unfold pU
    by_cases hk:k'=k
    . subst hk;simp [rP]
    . rw [if_neg hk,mR (by simpa using h)]
      have h':¬ k=k':=fun z=>hk z.symm
      simp [rP,h']
theorem pK {K:Frag}{st:Bool}{H:Hp}{k:κ}{d:D}{v:V}(rd:Rep K st H d v []):∀ {ks:List κ}{ds:List D}{vs:List V},Reps K st H ds vs []->Reps K st H (List.zipWith (fun k' y=>if k'=k then d else y) ks ds) (List.zipWith (fun k' y=>if k'=k then v else y) ks vs) []
  | [],ds,vs,r=>by simp only [List.zipWith_nil_left,Reps];exact⟨trivial,trivial⟩
  | k' :: ks,[],vs,r=>by
    simp only [Reps] at r
    obtain⟨rfl,_⟩:=r
    simp only [List.zipWith_nil_right,Reps];exact⟨trivial,trivial⟩
  | k' :: ks,x :: ds,vs,r=>by
    simp only [Reps] at r
    obtain⟨w,us,f1,f2,rfl,e,r1,r2⟩:=r
    obtain⟨rfl,rfl⟩:=List.append_eq_nil_iff.mp e.symm
    have ih:=pK (k:=k) rd (ks:=ks) r2
    simp only [List.zipWith_cons_cons,Reps]
    refine⟨_,_,[],[],rfl,rfl,?_,ih⟩
    split
    . exact rd
    . exact r1
theorem V5 {K:Frag}{st:Bool}{H:Hp}{k:κ}{d:D}{v:V}{ks:List κ}{ds:List D}{vs:List V}(rd:Rep K st H d v []) (r:Reps K st H ds vs []):Reps K st H (rG ks ds k d) (rG ks vs k v) []:=by
  unfold rG
  split
  . exact pK rd r
  . have:=Reps.snoc r rd
    simpa using this
end
theorem C8 {K:Frag}{H:Hp}{d:Addr}{o u:HO}(hd:H d=some o) (h1:∀ xs,o ≠ .tup xs) (h2:∀ q xs,o ≠ .frz q (.tup xs)):∀ a xs,SqT K H a xs->SqT K (upd H d u) a xs:=by
  intro a xs h
  rcases h with (h | ⟨q,h⟩) | h
  . exact .inl (.inl (by rw [aM (fun z=>by rw [z,hd] at h;exact h1 _ (Option.some.inj h))];exact h))
  . exact .inl (.inr ⟨q,by rw [aM (fun z=>by rw [z,hd] at h;exact h2 _ _ (Option.some.inj h))];exact h⟩)
  . exact .inr h
section
variable {X:Cx}{m m' m1 m2 m3:Bool}{rs rs' rs1 rs2 rs3:List Nat}{e a b c:Expr}{f fa fb fc:En->Option D}{pos p pos':Pos}{i:Nat}{x:Str}
theorem Z3m {K:Frag}{H:Hp}{q:Addr}{ks:List Key}{vs:List V}{ds:List D}{fp:List Addr}(hq:H q=none) (hl:ks.length=vs.length) (h:Reps K m H ds vs fp):Rep K m (upd H q (.dK (ks.zip vs))) (.dk ks ds) (.ref q) (q :: fp):=by
  simp only [Rep]
  exact⟨q,vs,fp,rfl,rfl,aV,hl,h.same (cC hq)⟩
theorem wO {K:Frag}{H:Hp}:Reps K m H [] [] []:=by simp only [Reps];exact⟨trivial,trivial⟩
theorem wV:QE X true [] (.Dict [] [] pos) (fC (.dk [] [])):=.mk L2.pe_dnewK fun σ H Q ⟨env,F,d,ok,e,q⟩=>by
  cases e
  intro p hp
  exact q _ _ [p] (cC hp) (Z3m (ks:=[]) (vs:=[]) hp rfl wO) (nZ (m:=true) (K:=X.K) (Same.refl H) hp (wO (m:=true)) .nil)
noncomputable def B6 (fa fb:En->Option D):En->Option Bool:=fun env=>match fa env,fb env with
  | some x,some (.dk ks ds)=>match keyOf x with
    | some k=>some (rP k ks)
    | none=>none
  | _,_=>none
theorem K7 {K:Frag}{σ:L2.St}{H:Hp}{Q:VK}(neg:Bool) {env:En}{F:Nat->List Addr}{bb:Bool}(ok:EnvOk K H σ env F) (e:B6 fa fb env=some bb) (q:∀ H',Same H H'->Q (.bl (if neg then !bb else bb)) H') :
    tD K m1 rs1 fa σ H fun y H1=>tD K m2 rs2 fb σ H1 fun x H2=>∃ a o,x=.ref a /\ DGet H2 a y o /\ Q (.bl (if neg then !o.isSome else o.isSome)) H2:=by
  unfold B6 at e
  split at e
  . rename_i x ks ds h1 h2
    cases hk:keyOf x with
    | none=>rw [hk] at e;cases e
    | some k =>
      rw [hk] at e
      cases e
      refine two ok h1 h2 fun v u H' f1 f2 s r1 r2 _ _=>?_
      rw [oY hk r1]
      simp only [Rep] at r2
      obtain⟨a,vs,fp',rfl,rfl,hs,hl,hr⟩:=r2
      refine⟨a,_,rfl,DGet.k hs,?_⟩
      rw [qU,mR hl]
      exact q H' s
  . cases e
theorem Z24 (hu:X.A.units + 1 < cLine) (ha:QE X m1 rs1 a fa) (hb:QE X m2 rs2 b fb) (hm:behindInMarks .In b=false:=by with_unfolding_all rfl):QT X (.Compare a [.In] [b] pos) (B6 fa fb) :=
  .mk (L2.pt_cmp (Z2r hu ha hb) hm) fun σ H Q ⟨env,F,bb,ok,e,q⟩=>K7 (Q:=fun v H'=>∃ k,v=.bl k /\ Q k H') false ok e fun H' s=>⟨bb,rfl,q H' s⟩
theorem qQ {K:Frag}{P H:Hp}{σ:L2.St}{env:En}{F:Nat->List Addr}{i:Nat}{d0 d1:D}{a:Addr}{o o':HO}{fp' fp2:List Addr}(sm:Same P H) (hl:σ.length=env.length) (h:EnvS K P H σ env F) (ei:env[i]? = some (some (true,d0)))
    (hv:σ[i]? = some (some (.ref a))) (hF:F i=a :: fp') (ha:H a=some o) (nt:∀ xs,o ≠ .tup xs) (nf:∀ x u,o ≠ .frz x u) (new:∀ st,Rep K st (upd H a o') d1 (.ref a) (a :: fp2)) (nd:(a :: fp2).Nodup) (hn:∀ b ∈ fp2,b ∈ fp' \/ (P b=none /\ ∀ j s,env[j]? = some (some s)->b ∉ F j)) :
    SInv K P (upd H a o') σ (env.set i (some (true,d1))):=by
  have hi:i < env.length:=(List.getElem?_eq_some_iff.mp ei).1
  obtain⟨o1,o2,o3,o4⟩:=h.own i _ ei
  have ha0:a ∈ F i:=by rw [hF];exact List.mem_cons_self
  have kp:∀ {fp:List Addr},a ∉ fp->Kp fp H (upd H a o'):=fun hn=>Kp.upd ha nt nf hn
  refine⟨fun b o e=>?_,by simp [hl],B0 F i (a :: fp2),fun j o d e=>?_,fun j d e=>?_⟩
  . have:b ≠ a:=fun z=>by have:=o2 a ha0;rw [z,this] at e;cases e
    rw [aM this];exact sm _ _ e
  . rw [dF hi] at e
    by_cases hj:j=i
    . subst hj
      rw [if_pos rfl] at e
      cases e
      exact⟨_,hv,by rw [bL];exact new false⟩
    . rw [if_neg hj] at e
      obtain⟨w,h1,h2⟩:=h.ok j o d e
      exact⟨w,h1,by rw [aU hj];exact Rep.keep _ _ _ (kp (o4 j _ hj e a ha0)) h2⟩
  . rw [dF hi] at e
    by_cases hj:j=i
    . subst hj
      rw [if_pos rfl] at e
      cases e
      refine⟨by rw [bL];exact nd,fun b hb=>?_,fun w hw=>?_,fun k s hk ek b hb=>?_⟩
      . rw [bL] at hb
        rcases List.mem_cons.mp hb with z | z
        . rw [z];exact o2 a ha0
        . rcases hn b z with y | y
          . exact o2 b (by rw [hF];exact List.mem_cons_of_mem _ y)
          . exact y.1
      . rw [hv] at hw
        cases hw
        rw [bL];exact new true
      . rw [bL] at hb
        rw [aU hk]
        rw [dF hi,if_neg hk] at ek
        rcases List.mem_cons.mp hb with z | z
        . rw [z];exact o4 k s hk ek a ha0
        . rcases hn b z with y | y
          . exact o4 k s hk ek b (by rw [hF];exact List.mem_cons_of_mem _ y)
          . exact y.2 k s ek
    . rw [if_neg hj] at e
      obtain⟨a1,a2,a3,a4⟩:=h.own j d e
      refine⟨by rw [aU hj];exact a1,fun b hb=>a2 b (by rw [aU hj] at hb;exact hb),fun w hw=>by rw [aU hj];exact Rep.keep _ _ _ (kp (o4 j _ hj e a ha0)) (a3 w hw),fun k s hk ek b hb=>?_⟩
      rw [aU hj] at hb
      rw [dF hi] at ek
      by_cases hki:k=i
      . subst hki
        rw [bL]
        intro z
        rcases List.mem_cons.mp z with z | z
        . exact a4 k _ hk ei b hb (by rw [z];exact ha0)
        . rcases hn b z with y | y
          . exact a4 k _ hk ei b hb (by rw [hF];exact List.mem_cons_of_mem _ y)
          . exact y.2 j _ e hb
      . rw [if_neg hki] at ek
        rw [aU hki]
        exact a4 k s hk ek b hb
noncomputable def rE (i:Nat) (fk fv:En->Option D):En->Res:=fun env=>match fv env,env[i]?,fk env with
  | some d,some (some (true,.dk ks ds)),some kd=>match keyOf kd with
    | some k=>if flats ds=true /\ flat d=true /\ ks.length < 1000 then .next (env.set i (some (true,.dk (zH ks k) (rG ks ds k d)))) else .bad
    | none=>.bad
  | _,_,_=>.bad
theorem D4 {fk fv:En->Option D}{value key:Expr}(hu:X.A.units + 1 < cLine) (i:Nat) (hk:QE X m2 rs2 key fk) (hv:QE X m1 rs1 value fv) (hN:X.N[i]? = some x:=by rfl) (hvis:Vis X.env.scope x:=by first | exact Or.inl rfl | exact Or.inr (Or.inl rfl) | exact Or.inr (Or.inr rfl)) (hd:(x == ("__debug__" : Str))=false:=by decide) (hcd:(x == ("__classdict__" : Str))=false:=by decide)
    (hs:swapsWith value (some (.Subscript (.Name x p) key pos')) pos.line X.env=pure false:=by rfl) :
    QS X (.Assign [.Subscript (.Name x p) key pos'] value pos) (rE i fk fv):=.mk (Z0V hu (iK hN hvis hd hcd) hk hv hs) fun E σ H ⟨P,env,I,q⟩=>by
  obtain⟨F,hF⟩:=I.ex
  unfold rE at q
  split at q
  . rename_i d ks ds kd h1 h2 h3
    cases hkk:keyOf kd with
    | none=>rw [hkk] at q;exact q.elim
    | some k =>
      rw [hkk] at q
      simp only at q
      split at q
      . rename_i hfl
        obtain⟨w,hv1,_⟩:=hF.ok i true _ h2
        obtain⟨o1,o2,o3,o4⟩:=hF.own i _ h2
        have r0:=o3 w hv1
        simp only [Rep] at r0
        obtain⟨a,vs,fp',rfl,hFi,ha,hl,hr⟩:=r0
        obtain⟨e1,e2⟩:=Reps.flat _ _ _ hfl.1 hr
        subst e1
        refine⟨env,F,d,hF.ok,h1,fun v H1 fp s r c=>⟨.ref a,hv1,env,F,kd,hF.ok.same s,h3,fun kv H2 fp2 s2 r2 c2=>?_⟩⟩
        obtain⟨_,rf⟩:=Rep.flat _ _ _ hfl.2.1 r
        rw [oY hkk r2]
        have ha':=(s.trans s2) _ _ ha
        have hlk:(ks.zip vs).length < sizeLine:=by
          rw [List.length_zip]
          have:=kI (n:=ks.length) (by omega)
          omega
        refine⟨a,_,rfl,DPut.k ha' hlk,q _ _ ?_⟩
        refine qQ (fp2:=[]) (fp':=[]) (I.same.trans (s.trans s2)) I.len (hF.grow (s.trans s2)) h2 hv1 hFi ha' (by intro xs z;cases z) (by intro x u z;cases z) (fun st=>?_) (by simp) (fun b hb=>(by cases hb))
        rw [V8 hl]
        simp only [Rep]
        refine⟨a,rG ks vs k v,[],rfl,rfl,aV,V6 hl,?_⟩
        refine Reps.keep _ _ _ (Kp.upd (fp:=[]) ha' (by intro xs z;cases z) (by intro x u z;cases z) (by simp)) ?_
        exact V5 ((rf st).same s2) ((e2 st).same (s.trans s2))
      . exact q.elim
  . exact q.elim
end
section
variable {prog:Program}{w:World}{A:Around}{E:Value->Shared->Prop}{s:Shared}{T:String}{r d:Addr}{n:Nat}{PP:Nat->Value->Prop}{OK:Heap->Prop}
theorem yC {Z:List Value->Shared->Prop}(S:PySem.W.KdlSrc prog w T r d n PP OK) (h0:A.handled=none) (hS:OK s.heap) (hz:n <= sizeLine)
    (fin:∀ (hp:Heap) (tk:Nat) (vs:Array Value),(∀ c o,s.heap.get? c=some o->hp.get? c=some o)->s.heap.objs.size < hp.objs.size->PySem.ItemsOf PP vs n->Z vs.toList { s with heap:=hp,toks:=tk }) :
    wpAny (model prog w) A (collect (.ref r)) Z E s:=by
  obtain⟨l1,l2⟩:=S.there _ hS
  unfold collect;refine wpAny_bind (wpAny_runValue (codeAny_builtin PyProof.Rows.entry_proto_collect' ?_));rw [Around.under_plainId PySem.F.plain_proto_collect _]
  show wpAny _ A.in1 (newList [] >>= fun nl=>again (.builtin "list.__iadd__" ⟨[nl,.ref r],[]⟩)) _ _ s
  refine wpAny_bind (wpAny_newObj_type (wpAny_pure ⟨plainId_quiet PySem.F.plain_list_iadd _,codeAny_builtin PyProof.Rows.entry_list_iadd' ?_⟩));rw [Around.under_plainId PySem.F.plain_list_iadd _]
  have hN:(s.heap.push { cls:=.type "list",data:=.seq ([]:List Value).toArray }).get? s.heap.objs.size=some { cls:=.type "list",data:=.seq #[] }:=Heap.get?_push_size _ rfl
  have ext:=PySem.W.kdl_extend (A:=A) (s:={ s with heap:=s.heap.push { cls:=.type "list",data:=.seq ([]:List Value).toArray } })
    (R:=fun (q:Result) (t:Shared)=>q=.ok (.ret (.ref s.heap.objs.size)) /\ ∃ (hp:Heap) (tk:Nat) (vs:Array Value) (k:Nat),t={ s with heap:=hp,toks:=tk } /\ (∀ c o,s.heap.get? c=some o->hp.get? c=some o) /\
      hp.get? s.heap.objs.size=some { cls:=.type "list",dict:=none,data:=.seq vs k,slots:=#[] } /\ PySem.ItemsOf PP vs n)
    S h0 (S.keep _ _ hS fun c _ o e=>Heap.get?_push_of_some _ e) s.heap.objs.size (Nat.ne_of_gt l1) (Nat.ne_of_gt l2) (.ref s.heap.objs.size) 0 hN
    (fun hp tk vs k kept at' its=>⟨rfl,hp,tk,vs,k,rfl,fun c o e=>kept c o (Nat.ne_of_lt (Heap.lt_size e)) (Heap.get?_push_of_some _ e),at',its⟩) hz
  show wpAny _ A.in1 (Builtin.List.listExtendWith (.ref s.heap.objs.size) (.ref r) (.ref s.heap.objs.size)) _ _ _
  refine wpAny_mono ext (fun out t hq=>?_) fun x t hq=>(by cases hq.1)
  cases out with
  | done fl =>
    obtain⟨e,hp,tk,vs,k,rfl,kept,at',its⟩:=hq;cases e
    show wpAny _ A (load s.heap.objs.size >>= _) _ _ _;exact wpAny_bind (wpAny_load at' (wpAny_pure (fin hp tk vs kept (Heap.lt_size at') its)))
  | again code =>
    refine⟨hq.1,codeAny_mono hq.2 fun res t2 hr=>?_⟩
    obtain⟨rfl,hp,tk,vs,k,rfl,kept,at',its⟩:=hr
    show wpAny _ A (load s.heap.objs.size >>= _) _ _ _;exact wpAny_bind (wpAny_load at' (wpAny_pure (fin hp tk vs kept (Heap.lt_size at') its)))
end
theorem rW:∀ {l:List Value}{ns:List Int},l.length=ns.length->(∀ (j:Nat) (v:Value),l[j]? = some v->∃ n t,ns[j]? = some n /\ v=.int n t)->IntsAre l ns
  | [],[],_,_=>.nil
  | [],_ :: _,h,_=>by cases h
  | _ :: _,[],h,_=>by cases h
  | v :: l,n :: ns,h,hv=>by
    obtain⟨n',t,e,rfl⟩:=hv 0 v rfl
    cases e
    exact .cons n t (rW (by simpa using h) fun j u hu=>hv (j + 1) u hu)
section
variable {X:Cx}{m m1:Bool}{rs rs1:List Nat}{a:Expr}{fa:En->Option D}{pos:Pos}
theorem sZ (hc:X.calm=true):CallR X (.builtin "sorted") (fun vs H Q=>∃ (a:Addr) (kvs:List (Key × V)) (ns:List Int),vs=[.ref a] /\ H a=some (.dK kvs) /\ kvs.map (·.1)=ns.map Sum.inl /\ ns.length < 64 /\ ∀ l,H l=none->Q (.ref l) (upd H l (.lst ((lQ ns).map V.int)))):=fun pins s σ H xs us Q I w h=>by
  obtain⟨a,kvs,ns,rfl,ha,hk,h64,q⟩:=h
  obtain⟨u,rfl,r⟩:=mV w
  cases (show u=Value.ref a from r)
  obtain⟨z,hd,vs,rel,dd⟩:=J3 I.hok ha
  obtain⟨ep,hat⟩:=dd.dictAt
  have hkeys:=rel.keys
  have hlen:=rel.length
  have hn:vs.length=ns.length:=by
    have:=congrArg List.length hk
    simp only [List.length_map] at this
    omega
  have hz:vs.length <= sizeLine:=by omega
  refine Calls.call_function_entry kind_sorted plain_sorted entry_sorted (args_sorted1 _) ?_
  unfold Builtin.«sorted»;refine wpAny_bind (m:=checkCount "sorted" 1 1 _) (wpAny_pure ?_)
  refine wpAny_bind (yC (A:=X.A.in1) (PySem.W.kdl_dict (knd:=cQ X.prog X.w) (kvs:=vs) (ep:=ep) hd) (I.ok.hd hc) hat hz fun hp tk acc kept hlt its=>?_)
  have hI:IntsAre acc.toList ns:=by
    refine rW (by rw [Array.length_toList,its.1,hn]) fun j v hv=>?_
    rw [Array.getElem?_toList] at hv
    obtain⟨k,x,hx,hkv⟩:=its.2 j v hv
    have e1:(vs.map (·.1))[j]? = some k:=by rw [List.getElem?_map,hx];rfl
    rw [<- hkeys,hk,List.getElem?_map] at e1
    cases hns:ns[j]? with
    | none=>rw [hns] at e1;cases e1
    | some n =>
      rw [hns] at e1
      simp only [Option.map_some,Option.some.injEq] at e1
      subst e1
      rcases cO (show pQ (Sum.inl n) v=true from hkv) with ⟨i,t,e,rfl⟩ | ⟨x,t,e,_⟩
      . cases e
        exact⟨n,t,rfl,rfl⟩
      . cases e
  have hal:acc.toList.length < 64:=by rw [Array.length_toList,its.1,hn];exact h64
  refine wpAny_bind (wpAny_newList ?_ (by rw [Array.length_toList,its.1];exact hz))
  have hoL:(hp.push { cls:=.type "list",data:=.seq acc.toList.toArray }).get? hp.objs.size=some (seqObj "list" acc.toList.toArray 0):=Heap.get?_push_size _ rfl
  refine wpAny_bind (wpAny_holding (wpAny_call_entry slot_list_sort ⟨_,hoL,rfl⟩ entry_list_sort (list_sort_tree hoL hI hal fun out ns' a1 a2 a3=>⟨_,rfl,?_⟩) (args_list_sort _)))
  refine wpAny_pure ⟨_,rfl,?_⟩
  obtain⟨ee,he⟩:=sortedHeap_at (out:=out) hoL
  have hns:ns'=lQ ns:=gR (a2.trans (hJ ns).symm) a3 (iF ns)
  subst hns
  refine⟨.ref hp.objs.size,_,I.laid (t':=tk) (fun c u e=>?_) (Nat.le_of_lt hlt) (show ObjOk X.prog X.w _ _ _ (.lst ((lQ ns).map V.int)) from ⟨?_,out.toList,ee,kF a1,?_⟩),rfl,q _ (I.hok.fresh (Nat.le_of_lt hlt))⟩
  . have e':=kept c u e
    have h2:=Heap.lt_size e'
    rw [sortedHeap_old (Nat.ne_of_lt h2) (by rw [size_push'];exact Nat.lt_succ_of_lt h2)]
    exact Heap.get?_push_of_some _ e'
  . have:=a2.length_eq
    rw [List.length_map,this]
    omega
  . rw [Array.toArray_toList]
    exact he
noncomputable def jW:List Key->Option (List Int)
  | []=>some []
  | .inl i :: r=>(jW r).map (i :: ·)
  | .inr _ :: _=>none
theorem pS:∀ {ks:List Key}{ns:List Int},jW ks=some ns->ks=ns.map Sum.inl
  | [],ns,h=>by cases h;rfl
  | .inl i :: r,ns,h=>by
    unfold jW at h
    cases hr:jW r with
    | none=>rw [hr] at h;cases h
    | some m=>rw [hr] at h;cases h;rw [List.map_cons,<- pS hr]
  | .inr _ :: _,ns,h=>by cases h
theorem A2 (ns:List Int):jW (ns.map Sum.inl)=some ns:=by
  induction ns with
  | nil=>rfl
  | cons n ns ih=>rw [List.map_cons];unfold jW;rw [ih];rfl
noncomputable def vZ:List D->Option D
  | [.dk ks _]=>match jW ks with
    | some ns=>if ns.length < 64 then some (.lst ((lQ ns).map .int)) else none
    | none=>none
  | _=>none
theorem V1 {p:Pos}(hc:X.calm=true) (hg:Gl X "sorted") (hm:X.mg "sorted" = none) (ha:QE X m1 rs1 a fa) (he:starEach [a] X.env=(false,eval a X.env) :: starEach [] X.env:=by rfl) (hpl:(backTo pos (starEach [] X.env)).any (·.1)=false:=by rfl) :
    QE X m rs (.Call (.Name "sorted" p) [a] [] pos) (fB1 vZ (aC fa aL)) :=
  kN (sZ hc) hg hm pZ (aD ha aK he) (fun ds d vs H fp Q e r q=>by
    unfold vZ at e
    split at e
    . rename_i ks xs
      cases hq:jW ks with
      | none=>rw [hq] at e;cases e
      | some ns =>
        rw [hq] at e
        simp only at e
        split at e
        . rename_i h64
          cases e
          obtain⟨v,rfl,r1⟩:=iP r
          simp only [Rep] at r1
          obtain⟨p,ws,fp',rfl,rfl,hs,hl,hr⟩:=r1
          refine⟨p,_,ns,rfl,hs,?_,h64,fun l hl=>?_⟩
          . rw [<- pS hq,List.map_fst_zip (by omega)]
          . exact q _ _ [l] (cC hl) (lX hl (kL (lQ ns))) (fun b hb=>by simp at hb;rw [hb];exact hl) (by simp)
        . cases e
    . cases e) (he:=he) (hpl:=hpl)
end
noncomputable abbrev Itm:=Sum Nat (En->Option D)
section
variable {X:Cx}{m m' m1 m2:Bool}{rs rs' rs1 rs2:List Nat}{e a b c:Expr}{es:List Expr}{f fa fb:En->Option D}{is:List Itm}{pos p p2 p3 pos':Pos}{i j:Nat}{x y:Str}
end
end PD
namespace HT
open PySem PyProof.Rows
section
variable {prog:Program}{w:World}{A:Around}{E:Value->Shared->Prop}{s:Shared}
end
end HT
namespace PD
open PySem PySem.Spec PyProof.Rows L2
section
variable {X:Cx}{m m' m1 m2:Bool}{rs rs' rs1 rs2:List Nat}{e a b c:Expr}{f fa fb:En->Option D}{pos p p2 p3 pos':Pos}
end
section
variable {X:Cx}{m m' m1 m2:Bool}{rs rs' rs1 rs2:List Nat}{e a b c:Expr}{f fa fb:En->Option D}{pos p p2 p3 pos':Pos}
end
section
variable {env:En}{fa fb f:En->Option D}{b c:En->Option Bool}{fs:En->Option (List D)}{g h:En->Res}
@[simp] theorem ev_var {i:Nat}:aB i env=(env[i]?).join.map (·.2):=(rfl)
@[simp] theorem ev_C {d:D}:fC d env=some d:=(rfl)
theorem Z1K {C:Int->Int->Prop}{g:Int->Int->D}{i j:Int}(ha:fa env=some (.int i)) (hb:fb env=some (.int j)) (hc:C i j):fI2 C g fa fb env=some (g i j):=by simp [fI2,ha,hb,hc]
@[simp] theorem ev_Flat:aW f env=match f env with | some d=>if flat d=true then some d else none | none=>none:=(rfl)
@[simp] theorem ev_B:fB f env=match f env with | some (.bl b)=>some b | _=>none:=(rfl)
@[simp] theorem ev_OfB:lI b env=(b env).map .bl:=(rfl)
@[simp] theorem ev_And:kC b c env=match b env with | some true=>c env | some false=>some false | none=>none:=(rfl)
@[simp] theorem ev_Or:fOr b c env=match b env with | some false=>c env | some true=>some true | none=>none:=(rfl)
@[simp] theorem ev_Not:iN b env=(b env).map (!·):=(rfl)
@[simp] theorem ev_Nil:aL env=some []:=(rfl)
@[simp] theorem ev_Cons:aC f fs env=match f env,fs env with | some d,some ds=>some (d :: ds) | _,_=>none:=(rfl)
@[simp] theorem ev_Tup:iM fs env=match fs env with | some ds=>if ds.length <= 1000 then some (.tup ds) else none | none=>none:=(rfl)
@[simp] theorem ev_Lst:jI fs env=match fs env with | some ds=>if ds.length <= 1000 then some (.lst ds) else none | none=>none:=(rfl)
@[simp] theorem ev_BI {p:Int->Int->Bool}:fBI p fa fb env=match fa env,fb env with | some (.int i),some (.int j)=>some (p i j) | _,_=>none:=(rfl)
@[simp] theorem ev_IsN {neg:Bool}:sX neg fa env=match fa env with | some .non=>some (!neg) | some _=>some neg | none=>none:=(rfl)
@[simp] theorem ev_Eq:fEq fa fb env=match fa env,fb env with | some x,some y=>eqN 8 x y | _,_=>none:=(rfl)
@[simp] theorem ev_Ix : fIx fa fb env = match fa env, fb env with
  | some (.lst ds),some (.int i)=>atI ds i
  | some (.tup ds),some (.int i)=>atI ds i
  | some (.str z),some (.int i)=>if z.length <= 1000 then (atI z.cps.toList i).map fun c=>.str ⟨#[c]⟩ else none
  | _,_=>none:=(rfl)
@[simp] theorem ev_I2' {C : Int -> Int -> Prop} {g : Int -> Int -> D} : fI2 C g fa fb env = match fa env, fb env with
  | some (.int i),some (.int j)=>open Classical in if C i j then some (g i j) else none
  | _,_=>none:=(rfl)
@[simp] theorem ev_I0' {g : Int -> Int -> D} : fI0 g fa fb env = match fa env, fb env with
  | some (.int i),some (.int j)=>some (g i j)
  | _,_=>none:=(rfl)
@[simp] theorem ev_Call {F':List D->Option D}{dds:List D}:aP F' dds fs env=match fs env with | some xs=>F' (xs ++ dds) | none=>none:=by unfold aP;cases fs env <;> rfl
@[simp] theorem ev_B1 {F':List D->Option D}:fB1 F' fs env=match fs env with | some xs=>F' xs | none=>none:=by unfold fB1;cases fs env <;> rfl
@[simp] theorem ev_IsT {c:String}:Z05 c fa env=match fa env with | some d=>(mU c d).map .bl | none=>none:=by unfold Z05;cases fa env <;> rfl
@[simp] theorem ev_NoP:lR env=some none:=(rfl)
@[simp] theorem ev_P:fP f env=match f env with | some (.int i)=>some (some i) | _=>none:=(rfl)
@[simp] theorem ev_seq:dP fa env=match fa env with | some (.lst ds)=>some ds | some (.tup ds)=>some ds | _=>none:=(rfl)
@[simp] theorem ev_TT:fTT env=some true:=(rfl)
@[simp] theorem ev_cat:B7 fa fb env=match fa env,fb env with | some (.lst a),some (.lst b)=>if a.length + b.length <= 1000 then some (.lst (a ++ b)) else none | _,_=>none:=(rfl)
theorem ev_Sl {fl fh:En->Option (Option Int)}:fSl fa fl fh env=match fa env,fl env,fh env with
  | some (.lst ds),some lo,some hi=>if flats ds=true then some (.lst (cutD ds lo hi)) else none
  | some (.tup ds),some lo,some hi=>if flats ds=true /\ ¬ (HT.sIx ds.length 0 lo=0 /\ HT.sIx ds.length ds.length hi=ds.length) then some (.tup (cutD ds lo hi)) else none
  | _,_,_=>none:=(rfl)
theorem ev_In:fIn fa fb env=match fa env,fb env with | some x,some y=>inF x y | _,_=>none:=(rfl)
theorem ev_InK:B6 fa fb env=match fa env,fb env with
  | some x,some (.dk ks ds)=>match keyOf x with
    | some k=>some (rP k ks)
    | none=>none
  | _,_=>none:=(rfl)
theorem ev_Bits:sE fa env=match fa env with | some (.int i)=>some (.int ((Builtin.Int.intBits i:Nat):Int)) | _=>none:=(rfl)
@[simp] theorem ev_rNext:bX env=.next env:=(rfl)
@[simp] theorem ev_rIf:rIf c g h env=match c env with | some true=>g env | some false=>h env | none=>.bad:=(rfl)
@[simp] theorem ev_rRet:bU f env=match f env with | some d=>.ret d | none=>.bad:=(rfl)
@[simp] theorem ev_rSet {i:Nat}:bR i f env=match f env with | some d=>.next (env.set i (some (true,d))) | none=>.bad:=(rfl)
@[simp] theorem ev_rSeq:aO g h env=match g env with | .next env'=>h env' | r=>r:=(rfl)
end
noncomputable def LI (xs:List Int):D:=.lst (xs.map .int)
theorem eqN_int (n:Nat) (a b:Int):eqN (n + 1) (.int a) (.int b)=some (decide (a=b)):=by simp only [eqN];congr
theorem eqN_str (n:Nat) (a b:Str):eqN (n + 1) (.str a) (.str b)=some (a == b):=by simp only [eqN]
theorem eqN_bl (n:Nat) (a b:Bool):eqN (n + 1) (.bl a) (.bl b)=some (a == b):=by simp only [eqN]
theorem eqN_non {n:Nat}:eqN (n + 1) .non .non=some true:=by simp only [eqN]
theorem eqN_tnon {n:Nat}{xs:List D}:eqN (n + 1) (.tup xs) .non=some false:=by simp only [eqN]
theorem eqN_tup (n:Nat) (xs ys:List D):eqN (n + 1) (.tup xs) (.tup ys)=(eqL (eqN n) xs ys).map (· && xs.length == ys.length):=by simp only [eqN]
theorem eqL_cons {f:D->D->Option Bool}{x y:D}{xs ys:List D}:eqL f (x :: xs) (y :: ys)=match f x y,eqL f xs ys with | some a,some b=>some (a && b) | _,_=>none:=by rw [eqL];try (cases f x y <;> cases eqL f xs ys <;> rfl)
theorem eqL_nil {f:D->D->Option Bool}{ys:List D}:eqL f [] ys=some true:=by simp only [eqL]
theorem eqL_nilL {f:D->D->Option Bool}{xs:List D}:eqL f xs []=some true:=by cases xs <;> simp only [eqL]
theorem atI_m3 {α:Type}(x y z:α):atI [x,y,z] (-1)=some z:=rfl
theorem atI_m4 {α:Type}(x y z w:α):atI [x,y,z,w] (-1)=some w:=rfl
theorem atI_0 {α:Type}(x:α) (xs:List α):atI (x :: xs) 0=some x:=lK (j:=0) rfl
theorem atI_1 {α:Type}(x y:α) (xs:List α):atI (x :: y :: xs) 1=some y:=lK (j:=1) rfl
theorem atI_2 {α:Type}(x y z:α) (xs:List α):atI (x :: y :: z :: xs) 2=some z:=lK (j:=2) rfl
theorem atI_3 {α:Type}(x y z w:α) (xs:List α):atI (x :: y :: z :: w :: xs) 3=some w:=lK (j:=3) rfl
theorem jU {a b:Int}(h:-(2 ^ 64) < a) (h2:a < 2 ^ 64):IntMulOk a b:=.of_left (PySem.intBits_le_64 h h2)
theorem vF {a b:Int}(h:-(2 ^ 64) < b) (h2:b < 2 ^ 64):IntMulOk a b:=.of_right (PySem.intBits_le_64 h h2)
theorem T6 (n:Nat):HT.sIx (n + 1) 0 (some 1)=1:=by
  have:=HT.sIx_nat (n + 1) 0 1
  simpa using this
theorem Z1p (x:D) (xs:List D):PD.cutD (x :: xs) (some 1) none=xs:=by
  unfold PD.cutD
  rw [List.length_cons,T6,HT.sIx_none]
  simp
theorem mI (xs:List D) (n:Nat):PD.cutD xs none (some (n:Int))=xs.take n:=by
  unfold PD.cutD
  rw [HT.sIx_nat,HT.sIx_none]
  simp only [List.drop_zero,Nat.sub_zero]
  by_cases h:n <= xs.length
  . rw [Nat.min_eq_left h]
  . rw [Nat.min_eq_right (by omega),List.take_length,List.take_of_length_le (by omega)]
theorem Z0b (xs:List D) (n:Nat):PD.cutD xs (some (n:Int)) none=xs.drop n:=by
  unfold PD.cutD
  rw [HT.sIx_nat,HT.sIx_none]
  by_cases h:n <= xs.length
  . rw [Nat.min_eq_left h,List.take_of_length_le (by simp)]
  . rw [Nat.min_eq_right (by omega),List.drop_of_length_le (by omega),List.drop_of_length_le (show xs.length <= n by omega)];simp
noncomputable def nth (vs:List Int) (a:Int):Int:=vs.getD a.toNat 0
theorem jJ {vs:List Int}{a:Int}(h0:0 <= a) (h1:a < vs.length):atI (vs.map D.int) a=some (.int (nth vs a)):=by
  have e:atI (vs.map D.int) ((a.toNat:Nat):Int)=some (.int (nth vs a)):=by
    refine lK ?_
    have hl:a.toNat < vs.length:=by omega
    simp [nth,List.getD,hl]
  rwa [Int.toNat_of_nonneg h0] at e
theorem gI (xs:List Int):flats (xs.map D.int)=true:=jA fun d hd=>by
  obtain⟨i,_,rfl⟩:=List.mem_map.mp hd
  rfl
theorem Z4 {n:Nat}{l:Int}(h0:0 <= l) (h1:l < n):ixN n l=some l.toNat:=by simp [ixN,h0,h1]
theorem pB:∀ (xs:List Int),lO (xs.map D.int)=some xs
  | []=>rfl
  | x :: xs=>by simp only [List.map_cons,lO,pB xs,Option.map_some]
theorem yZ (xs:List Int):vY [.lst (xs.map D.int)]=some (.int xs.sum):=by simp only [vY,pB,Option.map_some]
theorem xU {t:D->En->Option En}{g:En->Res}(I:Nat->En->Prop):∀ (ds:List D) (k:Nat) (env:En),(∀ i d env,ds[i]? = some d->I (k + i) env->∃ env1 env2,t d env=some env1 /\ (g env1=.next env2 \/ g env1=.cont env2) /\ I (k + i + 1) env2)->I k env ->
    ∃ env',mG t g ds env=.next env' /\ I (k + ds.length) env'
  | [],k,env,_,h=>⟨env,rfl,h⟩
  | d :: ds,k,env,st,h=>by
    obtain⟨env1,env2,h1,h2,h3⟩:=st 0 d env rfl h
    obtain⟨env',h4,h5⟩:=xU I ds (k + 1) env2 (fun i d' e hd hI=>by
      have:=st (i + 1) d' e (by simpa using hd) (by rwa [show k + (i + 1)=k + 1 + i by omega])
      rwa [show k + (i + 1) + 1=k + 1 + i + 1 by omega] at this) h3
    refine⟨env',?_,by rwa [List.length_cons,show k + (ds.length + 1)=k + 1 + ds.length by omega]⟩
    unfold mG
    rw [h1]
    simp only
    rcases h2 with h2 | h2 <;> (rw [h2];exact h4)
theorem bZ {L:Nat}{g:En->Res}{ds:List D}{d:D}(h:g (enStart L ds)=.ret d):runF L g ds=some d:=by unfold runF;rw [h]
theorem Z0C {g h:En->Res}{env env':En}{r:Res}(e:g env=.next env') (q:h env'=r):aO g h env=r:=by unfold aO;rw [e];exact q
theorem M0 {rs:List Nat}{src:En->Option (List D)}{t:D->En->Option En}{g:En->Res}{env env':En}{ds:List D}(e:src env=some ds) (h:mG t g ds (fz rs env)=.next env'):dZ rs src t g env=.next env':=by unfold dZ;rw [e];exact h
theorem eS {f:En->Option D}{env:En}{ds:List D}(h:f env=some (.lst ds)):dP f env=some ds:=by unfold dP;rw [h]
theorem P8 {t:D->En->Option En}{g:En->Res}(I:Nat->En->Prop) {ds:List D}{env:En}(st:∀ i d env,ds[i]? = some d->I i env->∃ env1 env2,t d env=some env1 /\ (g env1=.next env2 \/ g env1=.cont env2) /\ I (i + 1) env2) (h:I 0 env) :
    ∃ env',mG t g ds env=.next env' /\ I ds.length env':=by
  have:=xU I ds 0 env (fun i d e hd hI=>by rw [Nat.zero_add] at *;exact st i d e hd hI) h
  rwa [Nat.zero_add] at this
theorem kK {i:Nat}{f:En->Option D}{k:En->Res}{env:En}{d:D}{r:Res}(h:f env=some d) (q:k (env.set i (some (true,d)))=r):aO (bR i f) k env=r:=by unfold aO bR;rw [h];exact q
theorem L5 {c:En->Option Bool}{g h k:En->Res}{env:En}{r:Res}(e:c env=some true) (q:aO g k env=r):aO (rIf c g h) k env=r:=by
  unfold aO rIf at *;rw [e];exact q
theorem sNo {c:En->Option Bool}{g k:En->Res}{env:En}{r:Res}(e:c env=some false) (q:k env=r):aO (rIf c g bX) k env=r:=by
  unfold aO rIf;rw [e];exact q
theorem tN {f:En->Option D}{k:En->Res}{env:En}{d:D}(h:f env=some d):aO (bU f) k env=.ret d:=by unfold aO bU;rw [h]
theorem fV {f:En->Option D}{env:En}{d:D}(h:f env=some d):bU f env=.ret d:=by unfold bU;rw [h]
theorem D0 {i:Nat}{f:En->Option D}{env:En}{d:D}(h:f env=some d):bR i f env=.next (env.set i (some (true,d))):=by unfold bR;rw [h]
theorem L9 {c:En->Option Bool}{g h:En->Res}{env:En}{r:Res}(e:c env=some true) (q:g env=r):rIf c g h env=r:=by unfold rIf;rw [e];exact q
theorem U5 {c:En->Option Bool}{g h:En->Res}{env:En}{r:Res}(e:c env=some false) (q:h env=r):rIf c g h env=r:=by unfold rIf;rw [e];exact q
theorem jN {i:Nat}{f:En->Option D}{env:En}{d:D}{ds:List D}(h:f env=some d) (e:env[i]? = some (some (true,.lst ds))) (hl:ds.length <= 1000):gQ i f env=.next (env.set i (some (true,.lst (ds ++ [d])))):=by unfold gQ;rw [h,e];simp [hl]
theorem xV {t:D->En->Option En}{g k:En->Res}{r:Res}(I:Nat->En->Prop):∀ (ds:List D) (n:Nat) (env:En),(∀ i d env,ds[i]? = some d->I (n + i) env->∃ env1,t d env=some env1 /\ ((∃ env2,(g env1=.next env2 \/ g env1=.cont env2) /\ I (n + i + 1) env2) \/ (∃ d',g env1=.ret d' /\ r=.ret d') \/ (∃ env2,g env1=.brk env2 /\ k env2=r)))->I n env ->
    (∀ env',I (n + ds.length) env'->k env'=r)->(match mG t g ds env with | .next e=>k e | r=>r)=r
  | [],n,env,_,h,q=>by simpa [mG] using q env (by simpa using h)
  | d :: ds,n,env,st,h,q=>by
    obtain⟨env1,h1,h2⟩:=st 0 d env rfl h
    unfold mG
    rw [h1]
    rcases h2 with ⟨env2,h3,h4⟩ | ⟨d',h3,rfl⟩ | ⟨env2,h3,h4⟩
    . have ih:=xV (k:=k) (r:=r) I ds (n + 1) env2 (fun i d' e hd hI=>by
        have:=st (i + 1) d' e (by simpa using hd) (by rwa [show n + (i + 1)=n + 1 + i by omega])
        rwa [show n + (i + 1) + 1=n + 1 + i + 1 by omega] at this) h4 (fun e he=>q e (by rwa [List.length_cons,show n + (ds.length + 1)=n + 1 + ds.length by omega]))
      rcases h3 with h3 | h3 <;> (simp only [h3];exact ih)
    . simp only [h3]
    . simp only [h3];exact h4
theorem Z3Y {rs:List Nat}{src:En->Option (List D)}{t:D->En->Option En}{g k:En->Res}{r:Res}{env:En}{ds:List D}(hs:src env=some ds) (I:Nat->En->Prop) (h0:I 0 (fz rs env))
    (st:∀ i d env,ds[i]? = some d->I i env->∃ env1,t d env=some env1 /\ ((∃ env2,(g env1=.next env2 \/ g env1=.cont env2) /\ I (i + 1) env2) \/ (∃ d',g env1=.ret d' /\ r=.ret d') \/ (∃ env2,g env1=.brk env2 /\ k env2=r)))
    (hend:∀ env',I ds.length env'->k env'=r):aO (dZ rs src t g) k env=r:=by
  unfold aO dZ
  rw [hs]
  exact xV I ds 0 _ (fun i d e hd hI=>by rw [Nat.zero_add] at *;exact st i d e hd hI) h0 (fun e he=>hend e (by rwa [Nat.zero_add] at he))
theorem lM {rs:List Nat}{src:En->Option (List D)}{t:D->En->Option En}{g k:En->Res}{r:Res}{env:En}{ds:List D}(hs:src env=some ds) (I:Nat->En->Prop) (h0:I 0 (fz rs env))
    (st:∀ i d env,ds[i]? = some d->I i env->∃ env1 env2,t d env=some env1 /\ g env1=.next env2 /\ I (i + 1) env2)
    (hend:∀ env',I ds.length env'->k env'=r):aO (dZ rs src t g) k env=r :=
  Z3Y hs I h0 (fun i d e hd hI=>let ⟨e1,e2,a,b,c⟩:=st i d e hd hI;⟨e1,a,.inl ⟨e2,.inl b,c⟩⟩) hend
theorem pI {fe:En->Option D}{env:En}{α:Type}(φ:α->D) (ψ:α->D):∀ (xs:List α),(∀ x ∈ xs,fe (some (false,φ x) :: env)=some (ψ x))->dQ fTT fe env (xs.map φ)=some (xs.map ψ)
  | [],_=>rfl
  | x :: xs,h=>by
    have h1:=h x List.mem_cons_self
    have ih:=pI φ ψ xs fun y hy=>h y (List.mem_cons_of_mem _ hy)
    simp only [List.map_cons,dQ,fTT,h1]
    rw [ih]
theorem gJ {fr:List Nat}{src:En->Option (List D)}{fe:En->Option D}{env:En}{α:Type}(φ:α->D) (ψ:α->D) {xs:List α}(hs:src env=some (xs.map φ)) (hl:xs.length <= 1000) (h:∀ x ∈ xs,fe (some (false,φ x) :: qE fr env)=some (ψ x)) :
    dB fr src fTT fe env=some (.lst (xs.map ψ)):=by
  unfold dB
  rw [hs]
  simp only [List.length_map,hl,if_true]
  rw [pI φ ψ xs h]
  rfl
theorem oA {fc:En->Option Bool}{fe:En->Option D}{env:En}{α:Type}(φ:α->D) (ψ:α->D) (p:α->Bool):∀ (xs:List α),(∀ x ∈ xs,fc (some (false,φ x) :: env)=some (p x))->(∀ x ∈ xs,p x=true->fe (some (false,φ x) :: env)=some (ψ x))->dQ fc fe env (xs.map φ)=some ((xs.filter p).map ψ)
  | [],_,_=>rfl
  | x :: xs,hc,h=>by
    have h1:=hc x List.mem_cons_self
    have ih:=oA φ ψ p xs (fun y hy=>hc y (List.mem_cons_of_mem _ hy)) fun y hy=>h y (List.mem_cons_of_mem _ hy)
    simp only [List.map_cons,dQ,h1]
    cases hp:p x with
    | true =>
      have h2:=h x List.mem_cons_self hp
      simp only [h2,ih,List.filter_cons,hp,if_true,List.map_cons]
    | false=>simp only [ih,List.filter_cons,hp];simp
theorem lJ {fr:List Nat}{src:En->Option (List D)}{fc:En->Option Bool}{fe:En->Option D}{env:En}{α:Type}(φ:α->D) (ψ:α->D) (p:α->Bool) {xs:List α}(hs:src env=some (xs.map φ)) (hl:xs.length <= 1000) (hc:∀ x ∈ xs,fc (some (false,φ x) :: qE fr env)=some (p x)) (h:∀ x ∈ xs,p x=true->fe (some (false,φ x) :: qE fr env)=some (ψ x)) :
    dB fr src fc fe env=some (.lst ((xs.filter p).map ψ)):=by
  unfold dB
  rw [hs]
  simp only [List.length_map,hl,if_true]
  rw [oA φ ψ p xs hc h]
  rfl
theorem aZ {F':List D->Option D}{dds xs:List D}{fs:En->Option (List D)}{env:En}{r:Option D}(h:fs env=some xs) (q:F' (xs ++ dds)=r):aP F' dds fs env=r:=by unfold aP;rw [h];exact q
theorem iI {F':List D->Option (List D)}{xs:List D}{fs:En->Option (List D)}{env:En}{r:Option (List D)}(h:fs env=some xs) (q:F' xs=r):sB1 F' fs env=r:=by unfold sB1;rw [h];exact q
theorem kB {F':List D->Option D}{xs:List D}{fs:En->Option (List D)}{env:En}{r:Option D}(h:fs env=some xs) (q:F' xs=r):fB1 F' fs env=r:=by unfold fB1;rw [h];exact q
theorem bG {f:En->Option D}{fs:En->Option (List D)}{env:En}{d:D}{ds:List D}(h:f env=some d) (q:fs env=some ds):aC f fs env=some (d :: ds):=by unfold aC;rw [h,q]
theorem Z41 {j:Int}(h0:0 <= j) (h1:j <= 1000):hG [.int j]=some ((List.range j.toNat).map fun (k:Nat)=>.int (0 + (k:Int))):=by
  simp only [hG]
  rw [if_pos (by omega)]
theorem U0 {n:Nat}(h1:n <= 1000):hG [.int (n:Int)]=some ((List.range n).map fun (k:Nat)=>.int (k:Int)):=by
  rw [Z41 (by omega) (by omega),Int.toNat_natCast]
  congr 1
  apply List.map_congr_left
  intro a _
  congr 1;omega
theorem Z23 {j:Int}{n:Nat}(e:j=(n:Int)) (h:n <= 1000):hG [.int j]=some ((List.range n).map fun (k:Nat)=>.int (k:Int)):=by
  rw [e];exact U0 h
theorem cB {α:Type}{l:List α}{i:Nat}{x:α}(h:l[i]? = some x):l.take (i + 1)=l.take i ++ [x]:=by
  obtain⟨hi,e⟩:=List.getElem?_eq_some_iff.mp h
  rw [List.take_succ,h];rfl
theorem cR {α β:Type}{f:α->β}{l:List α}{i:Nat}{y:β}(h:(l.map f)[i]? = some y):∃ x,l[i]? = some x /\ y=f x:=by
  rw [List.getElem?_map] at h
  cases e:l[i]? with
  | none=>rw [e] at h;cases h
  | some x=>rw [e] at h;cases h;exact⟨x,rfl,rfl⟩
theorem nE {α β:Type}{f:Nat->α->β}{l:List α}{i:Nat}{y:β}(h:(l.mapIdx f)[i]? = some y):∃ x,l[i]? = some x /\ y=f i x:=by
  rw [List.getElem?_mapIdx] at h
  cases e:l[i]? with
  | none=>rw [e] at h;cases h
  | some x=>rw [e] at h;cases h;exact⟨x,rfl,rfl⟩
theorem kM {n i:Nat}{f:Nat->D}{y:D}(h:((List.range n).map f)[i]? = some y):i < n /\ y=f i:=by
  obtain⟨x,h1,rfl⟩:=cR h
  rw [List.getElem?_range] at h1
  . cases h1
    have hi:i < n:=by
      by_cases z:i < n
      . exact z
      . rw [List.getElem?_eq_none (by simp;omega)] at h
        cases h
    exact⟨hi,rfl⟩
  . by_cases z:i < n
    . exact z
    . rw [List.getElem?_eq_none (by simp;omega)] at h
      cases h
theorem Z0A (n:Nat):(0:Int) < 1 * 2 ^ n:=by rw [Int.one_mul];exact Int.pow_pos (by decide)
theorem vG (n:Nat):(2 ^ n).log2=n:=by
  rw [Nat.log2_eq_iff (Nat.ne_of_gt (Nat.two_pow_pos n))]
  exact⟨Nat.le_refl _,Nat.pow_lt_pow_right (by decide) (Nat.lt_succ_self n)⟩
theorem yE {i:Int}{n:Nat}(h:n < 9000):fE i (1 * 2 ^ n):=by
  refine⟨Z0A n,?_⟩
  rw [Int.one_mul,Int.natAbs_pow]
  show (2 ^ n).log2 < 9000
  rw [vG];exact h
noncomputable def Wp (r:Res) (Q:Res->Prop):Prop:=Q r
noncomputable def Rt (P:D->Prop):Res->Prop:=fun r=>∃ d,r=.ret d /\ P d
section
variable {Q:Res->Prop}{env:En}{k g h:En->Res}{f:En->Option D}{c:En->Option Bool}{i:Nat}{d:D}{P:D->Prop}
theorem Z3Z {L:Nat}{ds:List D}(w:Wp (g (enStart L ds)) (Rt P)):∃ d,runF L g ds=some d /\ P d:=by
  obtain⟨d,e,p⟩:=w
  exact⟨d,bZ e,p⟩
theorem oC (e:f env=some d) (q:Wp (k (env.set i (some (true,d)))) Q):Wp (aO (bR i f) k env) Q:=by unfold aO bR;rw [e];exact q
theorem Z1y (e:f env=some d) (q:Q (.next (env.set i (some (true,d))))):Wp (bR i f env) Q:=by unfold bR;rw [e];exact q
theorem Z3I (e:c env=some true) (q:Wp (aO g k env) Q):Wp (aO (rIf c g h) k env) Q:=by unfold aO rIf at *;rw [e];exact q
theorem R7 (e:c env=some true) (q:Wp (g env) Q):Wp (rIf c g h env) Q:=by unfold rIf at *;rw [e];exact q
theorem C2 (e:c env=some false) (q:Wp (h env) Q):Wp (rIf c g h env) Q:=by unfold rIf at *;rw [e];exact q
theorem wNo (e:c env=some false) (q:Wp (k env) Q):Wp (aO (rIf c g bX) k env) Q:=by unfold aO rIf;rw [e];exact q
theorem Z0r (e:f env=some d) (q:Q (.ret d)):Wp (bU f env) Q:=by unfold bU;rw [e];exact q
theorem Z1z (q:Q (.next env)):Wp (bX env) Q:=q
theorem Z3J {ds:List D}(h:f env=some d) (e:env[i]? = some (some (true,.lst ds))) (hl:ds.length <= 1000) (q:Wp (k (env.set i (some (true,.lst (ds ++ [d]))))) Q):Wp (aO (gQ i f) k env) Q:=by
  unfold aO;rw [jN h e hl];exact q
theorem wF {ds:List D}(h:f env=some d) (e:env[i]? = some (some (true,.lst ds))) (hl:ds.length <= 1000) (q:Q (.next (env.set i (some (true,.lst (ds ++ [d])))))):Wp (gQ i f env) Q:=by
  rw [jN h e hl];exact q
theorem Z3H (M:En->Prop) (h1:Wp (g env) (fun r=>∃ e,r=.next e /\ M e)) (h2:∀ e,M e->Wp (k e) Q):Wp (aO g k env) Q:=by
  obtain⟨e,h3,h4⟩:=h1
  unfold aO
  rw [h3]
  exact h2 e h4
theorem Z3G {rs:List Nat}{t:D->En->Option En}{env':En}(e:f env=some d) (e2:t d (fz rs env)=some env') (q:Wp (k env') Q):Wp (aO (L8 rs t f) k env) Q:=by
  unfold aO L8;rw [e];simp only [e2];exact q
theorem Z22 {L:Nat}{ds:List D}{d:D}(w:Wp (g (enStart L ds)) (fun r=>r=.ret d)):runF L g ds=some d:=bZ w
theorem wEq {r:Res}(e:g env=r) (q:Q r):Wp (g env) Q:=by rw [e];exact q
noncomputable def Tn (I:En->Prop) (k:En->Res) (Q:Res->Prop):Res->Prop
  | .next e=>I e
  | .cont e=>I e
  | .brk e=>Wp (k e) Q
  | .ret d=>Q (.ret d)
  | .bad=>False
theorem J0 {t:D->En->Option En}(I:Nat->En->Prop):∀ (ds:List D) (n:Nat) (env:En),(∀ i d env,ds[i]? = some d->I (n + i) env->∃ env1,t d env=some env1 /\ Wp (g env1) (Tn (I (n + i + 1)) k Q))->I n env ->
    (∀ env',I (n + ds.length) env'->Wp (k env') Q)->Wp (match mG t g ds env with | .next e=>k e | r=>r) Q
  | [],n,env,_,h,q=>by simpa [mG] using q env (by simpa using h)
  | d :: ds,n,env,st,h,q=>by
    obtain⟨env1,h1,h2⟩:=st 0 d env rfl h
    unfold mG
    rw [h1]
    have ih:∀ env2,I (n + 0 + 1) env2->Wp (match mG t g ds env2 with | .next e=>k e | r=>r) Q:=fun env2 h4=>J0 I ds (n + 1) env2 (fun i d' e hd hI=>by
        have:=st (i + 1) d' e (by simpa using hd) (by rwa [show n + (i + 1)=n + 1 + i by omega])
        rwa [show n + (i + 1) + 1=n + 1 + i + 1 by omega] at this) h4 (fun e he=>q e (by rwa [List.length_cons,show n + (ds.length + 1)=n + 1 + ds.length by omega]))
    unfold Wp at h2
    cases e1:g env1 with
    | next e=>rw [e1] at h2;simp only [e1];exact ih e h2
    | cont e=>rw [e1] at h2;simp only [e1];exact ih e h2
    | brk e=>rw [e1] at h2;simp only [e1];exact h2
    | ret d'=>rw [e1] at h2;simp only [e1];exact h2
    | bad=>rw [e1] at h2;exact h2.elim
theorem Z0s {rs:List Nat}{src:En->Option (List D)}{t:D->En->Option En}{ds:List D}(hs:src env=some ds) (I:Nat->En->Prop) (h0:I 0 (fz rs env))
    (st:∀ i d env,ds[i]? = some d->I i env->∃ env1,t d env=some env1 /\ Wp (g env1) (Tn (I (i + 1)) k Q))
    (hend:∀ env',I ds.length env'->Wp (k env') Q):Wp (aO (dZ rs src t g) k env) Q:=by
  unfold aO dZ
  rw [hs]
  exact J0 I ds 0 _ (fun i d e hd hI=>by rw [Nat.zero_add] at *;exact st i d e hd hI) h0 (fun e he=>hend e (by rwa [Nat.zero_add] at he))
theorem C3 {rs:List Nat}{src:En->Option (List D)}{t:D->En->Option En}{ds:List D}(hs:src env=some ds) (I:Nat->En->Prop) (h0:I 0 (fz rs env))
    (st:∀ i d env (R:Res->Prop),ds[i]? = some d->I i env->(∀ e,I (i + 1) e->R (.next e))->∃ env1,t d env=some env1 /\ Wp (g env1) R)
    (hend:∀ env',I ds.length env'->Wp (k env') Q):Wp (aO (dZ rs src t g) k env) Q :=
  Z0s hs I h0 (fun i d e hd hI=>st i d e _ hd hI fun _ z=>z) hend
theorem Z1Q {c:En->Option Bool}(I:Nat->En->Prop) {m:Nat}(h0:I m env)
    (st:∀ m env,I m env->(c env=some false /\ Wp (k env) Q) \/ (c env=some true /\ Wp (g env) (Tn (fun e=>∃ m',m' < m /\ I m' e) k Q))):Wp (aO (rWh c g) k env) Q:=by
  have key:∀ (n m:Nat) (env:En),m <= n->I m env->∃ r,whD c g (n + 1) env=r /\ ((∃ e,r=.next e /\ Wp (k e) Q) \/ (∃ d,r=.ret d /\ Q (.ret d))):=by
    intro n
    induction n with
    | zero =>
      intro m env hm hI
      rcases st m env hI with ⟨h1,h2⟩ | ⟨h1,h2⟩
      . exact⟨_,rfl,.inl ⟨env,by simp only [whD,h1],h2⟩⟩
      . unfold Wp at h2
        cases hg:g env with
        | next e=>rw [hg] at h2;obtain⟨m',l,_⟩:=h2;omega
        | cont e=>rw [hg] at h2;obtain⟨m',l,_⟩:=h2;omega
        | brk e=>rw [hg] at h2;exact⟨_,rfl,.inl ⟨e,by simp only [whD,h1,hg],h2⟩⟩
        | ret d=>rw [hg] at h2;exact⟨_,rfl,.inr ⟨d,by simp only [whD,h1,hg],h2⟩⟩
        | bad=>rw [hg] at h2;exact h2.elim
    | succ n ih =>
      intro m env hm hI
      rcases st m env hI with ⟨h1,h2⟩ | ⟨h1,h2⟩
      . exact⟨_,rfl,.inl ⟨env,by simp only [whD,h1],h2⟩⟩
      . unfold Wp at h2
        cases hg:g env with
        | next e =>
          rw [hg] at h2
          obtain⟨m',l,h3⟩:=h2
          obtain⟨r,e1,e2⟩:=ih m' e (by omega) h3
          exact ⟨r, by rw [<- e1]; conv => lhs; unfold whD
                       simp only [h1,hg],e2⟩
        | cont e =>
          rw [hg] at h2
          obtain⟨m',l,h3⟩:=h2
          obtain⟨r,e1,e2⟩:=ih m' e (by omega) h3
          exact ⟨r, by rw [<- e1]; conv => lhs; unfold whD
                       simp only [h1,hg],e2⟩
        | brk e=>rw [hg] at h2;exact⟨_,rfl,.inl ⟨e,by simp only [whD,h1,hg],h2⟩⟩
        | ret d=>rw [hg] at h2;exact⟨_,rfl,.inr ⟨d,by simp only [whD,h1,hg],h2⟩⟩
        | bad=>rw [hg] at h2;exact h2.elim
  obtain⟨r,e1,e2⟩:=key m m env (Nat.le_refl _) h0
  have hne:whD c g (m + 1) env ≠ .bad:=by rw [e1];rcases e2 with ⟨e,rfl,_⟩ | ⟨d,rfl,_⟩ <;> (intro z;cases z)
  unfold aO
  rw [U3 hne,e1]
  rcases e2 with ⟨e,rfl,h⟩ | ⟨d,rfl,h⟩
  . exact h
  . exact h
end
end PD
namespace G
open PySem PySem.Spec PyProof.Rows L2 PD
inductive Kd where | and | or | xor deriving DecidableEq
noncomputable def Kd.s:Kd->Str | .and => "and" | .or => "or" | .xor => "xor"
inductive Row where | fix (b:Int) | not (a:Int) | bin (k:Kd) (a b:Int)
noncomputable def Row.d:Row->D
  | .fix b=>.tup [.str "fix",.int b]
  | .not a=>.tup [.str "not",.int a]
  | .bin k a b=>.tup [.str k.s,.int a,.int b]
inductive Flt where | none | wire (w b:Int) | leg (w l b:Int)
noncomputable def Flt.d:Flt->D
  | .none=>.non
  | .wire w b=>.tup [.str "wire",.int w,.int b]
  | .leg w l b=>.tup [.str "leg",.int w,.int l,.int b]
theorem Z2U:((Str.ofString "wire") == (Str.ofString "leg"))=false:=by decide +kernel
theorem Z2V:((Str.ofString "leg") == (Str.ofString "wire"))=false:=by decide +kernel
theorem Z3V:((Str.ofString "wire") == (Str.ofString "wire"))=true:=by decide +kernel
theorem Z0D:((Str.ofString "fix") == (Str.ofString "fix"))=true:=by decide +kernel
theorem L3:((Str.ofString "not") == (Str.ofString "fix"))=false:=by decide +kernel
theorem L4 (k:Kd):(k.s == (Str.ofString "fix"))=false:=by cases k <;> decide +kernel
theorem Z2X (k:Kd):(k.s == (Str.ofString "not"))=false:=by cases k <;> decide +kernel
theorem Z3W:((Str.ofString "not") == (Str.ofString "not"))=true:=by decide +kernel
theorem Z2Y (k:Kd):(k.s == (Str.ofString "and"))=decide (k=.and):=by cases k <;> decide +kernel
theorem Z2W (k:Kd):(k.s == (Str.ofString "or"))=decide (k=.or):=by cases k <;> decide +kernel
theorem Z3X:((Str.ofString "leg") == (Str.ofString "leg"))=true:=by decide +kernel
theorem T9 (r:Row):flat r.d=true:=by cases r <;> rfl
theorem sC (f:Flt):flat f.d=true:=by cases f <;> rfl
theorem L6 (rows:List Row):flats (rows.map Row.d)=true:=jA fun d hd=>by
  obtain⟨r,_,rfl⟩:=List.mem_map.mp hd
  exact T9 r
noncomputable def bK (v w o:Int):Flt->Int
  | .wire w' b=>if w'=w then o * b else v
  | _=>v
noncomputable def Row.ws:Row->List Int
  | .fix _=>[]
  | .not a=>[a]
  | .bin _ a b=>[a,b]
noncomputable def legs (r:Row) (w:Int) (vs:List Int) (o:Int) (f:Flt):List Int:=match f with
  | .leg w' l b=>if w'=w then (r.ws.map (nth vs)).set l.toNat (o * b) else r.ws.map (nth vs)
  | _=>r.ws.map (nth vs)
noncomputable def iA (r:Row) (ls:List Int) (o:Int):Int:=match r with
  | .fix b=>o * b
  | .not _=>Builtin.bitXor o (nth ls 0)
  | .bin .and _ _=>Builtin.bitAnd (nth ls 0) (nth ls 1)
  | .bin .or _ _=>Builtin.bitOr (nth ls 0) (nth ls 1)
  | .bin .xor _ _=>Builtin.bitXor (nth ls 0) (nth ls 1)
noncomputable def bQ (C:Addr) (ins:Int) (rows:List Row) (outs:List Int):D:=.obj C ["ins","rows","outs"] [.int ins,.lst (rows.map Row.d),LI outs]
theorem nX {C:Addr}{ins:Int}{rows:List Row}{outs:List Int}{fa:En->Option D}{env:En}(h:fa env=some (bQ C ins rows outs)):iO C "rows" fa env=some (.lst (rows.map Row.d)):=by
  have h1:(Str.ofString "rows" == Str.ofString "ins")=false:=by decide +kernel
  simp [iO,h,bQ,List.lookup_cons,h1]
theorem mS {C:Addr}{ins:Int}{rows:List Row}{outs:List Int}{fa:En->Option D}{env:En}(h:fa env=some (bQ C ins rows outs)):iO C "ins" fa env=some (.int ins):=by
  simp [iO,h,bQ,List.lookup_cons]
theorem xW {C:Addr}{ins:Int}{rows:List Row}{outs:List Int}{fa:En->Option D}{env:En}(h:fa env=some (bQ C ins rows outs)):iO C "outs" fa env=some (LI outs):=by
  have h1:(Str.ofString "outs" == Str.ofString "ins")=false:=by decide +kernel
  have h2:(Str.ofString "outs" == Str.ofString "rows")=false:=by decide +kernel
  simp [iO,h,bQ,List.lookup_cons,h1,h2]
noncomputable def bM (o:Int) (f:Flt):List Int->List Int->List Int
  | vs,[]=>vs
  | vs,s :: r=>bM o f (vs ++ [bK s vs.length o f]) r
noncomputable def dR (o:Int) (f:Flt):List Int->List Row->List Int
  | vs,[]=>vs
  | vs,r :: rs=>dR o f (vs ++ [bK (iA r (legs r vs.length vs o f) o) vs.length o f]) rs
theorem gE (o:Int) (f:Flt):∀ (ss vs:List Int),(bM o f vs ss).length=vs.length + ss.length
  | [],vs=>by simp [bM]
  | s :: r,vs=>by simp only [bM];rw [gE o f r];simp;omega
theorem oH (o:Int) (f:Flt):∀ (rs:List Row) (vs:List Int),(dR o f vs rs).length=vs.length + rs.length
  | [],vs=>by simp [dR]
  | r :: rs,vs=>by simp only [dR];rw [oH o f rs];simp;omega
theorem kX (o:Int) (f:Flt):∀ (ss vs:List Int) (s:Int),bM o f vs (ss ++ [s])=bM o f vs ss ++ [bK s (bM o f vs ss).length o f]
  | [],vs,s=>by simp [bM]
  | a :: ss,vs,s=>by simp only [List.cons_append,bM];rw [kX o f ss]
theorem nC (o:Int) (f:Flt):∀ (rs:List Row) (vs:List Int) (r:Row),dR o f vs (rs ++ [r])=dR o f vs rs ++ [bK (iA r (legs r (dR o f vs rs).length (dR o f vs rs) o f) o) (dR o f vs rs).length o f]
  | [],vs,s=>by simp [dR]
  | a :: ss,vs,s=>by simp only [List.cons_append,dR];rw [nC o f ss]
noncomputable def RowOk (n:Int):Row->Prop
  | .fix b=>b=0 \/ b=1
  | .not a=>0 <= a /\ a < n
  | .bin _ a b=>(0 <= a /\ a < n) /\ 0 <= b /\ b < n
theorem RowOk.ws {n:Int}{r:Row}(h:RowOk n r):∀ a ∈ r.ws,0 <= a /\ a < n:=by
  cases r with
  | fix b=>intro a ha;cases ha
  | not a=>intro b hb;simp [Row.ws] at hb;subst hb;exact h
  | bin k a b=>intro c hc;simp [Row.ws] at hc;exact hc.elim (fun z=>z ▸ h.1) (fun z=>z ▸ h.2)
noncomputable def RowsOk (ins:Nat) (rows:List Row):Prop:=∀ k r,rows[k]? = some r->RowOk ((ins + k:Nat):Int) r
structure FltOk (ins:Nat) (rows:List Row) (f:Flt):Prop where
  w:∀ w b,f=.wire w b->b=0 \/ b=1
  l:∀ w l b,f=.leg w l b->b=0 \/ b=1
  leg:∀ w l b k r,f=.leg w l b->rows[k]? = some r->w=((ins + k:Nat):Int)->0 <= l /\ l < r.ws.length
theorem FltOk.no {ins:Nat}{rows:List Row}:FltOk ins rows .none:=⟨fun _ _ z=>(by cases z),fun _ _ _ z=>(by cases z),fun _ _ _ _ _ z=>(by cases z)⟩
theorem Y2 (r:Row) (w:Int) (vs:List Int) (o:Int) (f:Flt):(legs r w vs o f).length=r.ws.length:=by
  unfold legs
  split
  . split <;> simp
  . simp
theorem J6 {o b:Int}(h:b=0 \/ b=1):IntMulOk o b:=by rcases h with z | z <;> (subst z;exact vF (by decide) (by decide))
noncomputable def hZ (n:Nat) (g:Int):List Int:=(List.range n).map fun k=>(g / 2 ^ k) % 2
noncomputable def sJ (ins:Nat) (rows:List Row) (g:Int) (f:Flt):List Int:=dR 1 f (bM 1 f [] (hZ ins g)) rows
noncomputable def iD (o:Int) (f:Flt) (ss:List Int) (rows:List Row):List Int:=dR o f (bM o f [] ss) rows
theorem mL (o:Int) (f:Flt) (ss:List Int) (rows:List Row):(iD o f ss rows).length=ss.length + rows.length:=by
  unfold iD;rw [oH,gE];simp
theorem nB (o:Int) (f:Flt):∀ (rs:List Row) (vs:List Int) (k:Nat),k <= rs.length->(dR o f vs rs).take (vs.length + k)=dR o f vs (rs.take k)
  | [],vs,k,h=>by
    have:k=0:=by simpa using h
    subst this
    simp [dR]
  | r :: rs,vs,0,h=>by
    have ih:=nB o f rs (vs ++ [bK (iA r (legs r vs.length vs o f) o) vs.length o f]) 0 (Nat.zero_le _)
    simp only [dR,List.take_zero,Nat.add_zero] at ih ⊢
    have e:(dR o f (vs ++ [bK (iA r (legs r vs.length vs o f) o) vs.length o f]) rs).take vs.length=((dR o f (vs ++ [bK (iA r (legs r vs.length vs o f) o) vs.length o f]) rs).take (vs ++ [bK (iA r (legs r vs.length vs o f) o) vs.length o f]).length).take vs.length:=by
      rw [List.take_take];congr 1;simp
    rw [e,ih]
    simp
  | r :: rs,vs,k + 1,h=>by
    have ih:=nB o f rs (vs ++ [bK (iA r (legs r vs.length vs o f) o) vs.length o f]) k (by simpa using h)
    simp only [dR,List.take_succ_cons]
    rw [<- ih]
    congr 1
    simp;omega
theorem kW (o:Int) (f:Flt):∀ (ss vs:List Int) (k:Nat),k <= ss.length->(bM o f vs ss).take (vs.length + k)=bM o f vs (ss.take k)
  | [],vs,k,h=>by
    have:k=0:=by simpa using h
    subst this
    simp [bM]
  | s :: ss,vs,0,h=>by
    have ih:=kW o f ss (vs ++ [bK s vs.length o f]) 0 (Nat.zero_le _)
    simp only [bM,List.take_zero,Nat.add_zero] at ih ⊢
    have e:(bM o f (vs ++ [bK s vs.length o f]) ss).take vs.length=((bM o f (vs ++ [bK s vs.length o f]) ss).take (vs ++ [bK s vs.length o f]).length).take vs.length:=by
      rw [List.take_take];congr 1;simp
    rw [e,ih]
    simp
  | s :: ss,vs,k + 1,h=>by
    have ih:=kW o f ss (vs ++ [bK s vs.length o f]) k (by simpa using h)
    simp only [bM,List.take_succ_cons]
    rw [<- ih]
    congr 1
    simp;omega
theorem jB {o:Int}{f:Flt}{ss:List Int}{rows:List Row}{k:Nat}(h:k <= rows.length):(iD o f ss rows).take (ss.length + k)=iD o f ss (rows.take k):=by
  have:=nB o f rows (bM o f [] ss) k h
  rw [gE] at this
  simpa [iD] using this
theorem sN {o:Int}{f:Flt}{ss:List Int}{rows:List Row}{k:Nat}(h:k <= ss.length):(iD o f ss rows).take k=bM o f [] (ss.take k):=by
  have h1:=jB (o:=o) (f:=f) (ss:=ss) (rows:=rows) (k:=0) (Nat.zero_le _)
  have e:(iD o f ss rows).take k=((iD o f ss rows).take (ss.length + 0)).take k:=by rw [List.take_take];congr 1;omega
  have h2:=kW o f ss [] k h
  rw [e,h1]
  simpa [iD,dR] using h2
theorem tM {α:Type}{l a:List α}{x:α}{i:Nat}(h:l.take (i + 1)=a ++ [x]) (hl:i < l.length):l.take i=a /\ l[i]? = some x:=by
  have h1:l.take (i + 1)=l.take i ++ [l[i]]:=by rw [List.take_succ,List.getElem?_eq_getElem hl];rfl
  rw [h1] at h
  obtain⟨h2,h3⟩:=List.append_inj' h rfl
  refine⟨h2,?_⟩
  rw [List.getElem?_eq_getElem hl]
  simpa using h3
theorem qT {o:Int}{f:Flt}{ss:List Int}{rows:List Row}{i:Nat}{s:Int}(h:ss[i]? = some s):(iD o f ss rows)[i]? = some (bK s i o f):=by
  have hi:i < ss.length:=(List.getElem?_eq_some_iff.mp h).1
  have h1:=sN (o:=o) (f:=f) (rows:=rows) (show i + 1 <= ss.length from hi)
  rw [cB h,kX,gE] at h1
  have h2:=(tM h1 (by rw [mL];omega)).2
  rw [h2]
  congr 2
  simp;omega
theorem oE {o:Int}{f:Flt}{ss:List Int}{rows:List Row}{k:Nat}{r:Row}(h:rows[k]? = some r) :
    (iD o f ss rows)[ss.length + k]? = some (bK (iA r (legs r ((ss.length + k:Nat):Int) ((iD o f ss rows).take (ss.length + k)) o f) o) ((ss.length + k:Nat):Int) o f):=by
  have hk:k < rows.length:=(List.getElem?_eq_some_iff.mp h).1
  have h1:=jB (o:=o) (f:=f) (ss:=ss) (show k + 1 <= rows.length from hk)
  have h0:=jB (o:=o) (f:=f) (ss:=ss) (show k <= rows.length from Nat.le_of_lt hk)
  have hl:(iD o f ss (rows.take k)).length=ss.length + k:=by rw [mL];simp;omega
  rw [cB h] at h1
  unfold iD at h1 h0 hl
  rw [nC,hl] at h1
  have h2:=(tM (l:=iD o f ss rows) (i:=ss.length + k) (by rw [<- h1];rfl) (by rw [mL];omega)).2
  rw [h2]
  show _=some (bK (iA r (legs r _ ((dR o f (bM o f [] ss) rows).take (ss.length + k)) o f) o) _ o f)
  rw [h0]
noncomputable def Bt (x:Int):Prop:=x=0 \/ x=1
instance (x:Int):Decidable (Bt x):=inferInstanceAs (Decidable (x=0 \/ x=1))
theorem Z1q {x:Int}(h:Bt x):Builtin.bitXor 1 x=1 - x:=by rcases h with z | z <;> (subst z;decide)
theorem B8 {x:Int}(h:Bt x):Bt (Builtin.bitXor 1 x):=by rw [Z1q h];rcases h with z | z <;> (subst z;decide)
theorem Q8 {x y:Int}(h:Bt x) (k:Bt y):Bt (Builtin.bitAnd x y):=by rcases h with z | z <;> rcases k with w | w <;> (subst z;subst w;decide)
theorem Z0d {x y:Int}(h:Bt x) (k:Bt y):Bt (Builtin.bitOr x y):=by rcases h with z | z <;> rcases k with w | w <;> (subst z;subst w;decide)
theorem Q7 {x y:Int}(h:Bt x) (k:Bt y):Bt (Builtin.bitXor x y):=by rcases h with z | z <;> rcases k with w | w <;> (subst z;subst w;decide)
theorem iB {vs:List Int}{a:Int}{i:Nat}{x:Int}(h:vs[i]? = some x) (e:a=(i:Int)):nth vs a=x:=by
  subst e
  simp [nth,List.getD,h]
theorem lC {vs:List Int}(h:∀ x ∈ vs,Bt x) (a:Int):Bt (nth vs a):=by
  unfold nth
  cases e:vs[a.toNat]? with
  | none=>left;simp [List.getD,e]
  | some x=>rw [List.getD,e];exact h x (List.mem_of_getElem? e)
theorem E2 {r:Row}{w:Int}{vs:List Int}{f:Flt}(h:∀ x ∈ vs,Bt x) (hf:∀ w l b,f=.leg w l b->b=0 \/ b=1):∀ x ∈ legs r w vs 1 f,Bt x:=by
  have h0:∀ x ∈ r.ws.map (nth vs),Bt x:=fun x hx=>by
    obtain⟨a,_,rfl⟩:=List.mem_map.mp hx
    exact lC h a
  intro x hx
  unfold legs at hx
  split at hx
  . rename_i w' l b
    split at hx
    . rcases List.mem_or_eq_of_mem_set hx with z | z
      . exact h0 x z
      . rw [z,Int.one_mul];exact hf _ _ _ rfl
    . exact h0 x hx
  . exact h0 x hx
theorem Z1h {r:Row}{ls:List Int}{n:Int}(h:∀ x ∈ ls,Bt x) (hr:RowOk n r):Bt (iA r ls 1):=by
  cases r with
  | fix b=>show Bt (1 * b);rw [Int.one_mul];exact hr
  | not a=>exact B8 (lC h 0)
  | bin k a b=>cases k with
    | and=>exact Q8 (lC h 0) (lC h 1)
    | or=>exact Z0d (lC h 0) (lC h 1)
    | xor=>exact Q7 (lC h 0) (lC h 1)
theorem tT {v w:Int}{f:Flt}(h:Bt v) (hf:∀ w b,f=.wire w b->b=0 \/ b=1):Bt (bK v w 1 f):=by
  unfold bK
  split
  . split
    . rw [Int.one_mul];exact hf _ _ rfl
    . exact h
  . exact h
theorem qY {f:Flt}(hf:∀ w b,f=.wire w b->b=0 \/ b=1):∀ (ss vs:List Int),(∀ x ∈ vs,Bt x)->(∀ x ∈ ss,Bt x)->∀ x ∈ bM 1 f vs ss,Bt x
  | [],vs,h,_=>h
  | s :: ss,vs,h,hs=>by
    simp only [bM]
    refine qY hf ss _ (fun x hx=>?_) fun x hx=>hs x (List.mem_cons_of_mem _ hx)
    rcases List.mem_append.mp hx with z | z
    . exact h x z
    . have:x=bK s vs.length 1 f:=by simpa using z
      rw [this];exact tT (hs s List.mem_cons_self) hf
theorem wN {f:Flt}(hf:∀ w b,f=.wire w b->b=0 \/ b=1) (hl:∀ w l b,f=.leg w l b->b=0 \/ b=1):∀ (rs:List Row) (vs:List Int),(∀ x ∈ vs,Bt x)->(∀ r ∈ rs,∃ n,RowOk n r)->∀ x ∈ dR 1 f vs rs,Bt x
  | [],vs,h,_=>h
  | r :: rs,vs,h,hs=>by
    simp only [dR]
    refine wN hf hl rs _ (fun x hx=>?_) fun x hx=>hs x (List.mem_cons_of_mem _ hx)
    rcases List.mem_append.mp hx with z | z
    . exact h x z
    . have:x=bK (iA r (legs r vs.length vs 1 f) 1) vs.length 1 f:=by simpa using z
      obtain⟨n,hn⟩:=hs r List.mem_cons_self
      rw [this];exact tT (Z1h (E2 h hl) hn) hf
theorem vK (n:Nat) (g:Int):∀ x ∈ hZ n g,Bt x:=fun x hx=>by
  obtain⟨k,_,rfl⟩:=List.mem_map.mp hx
  have h0:=Int.emod_nonneg (g / 2 ^ k) (show (2:Int) ≠ 0 by decide)
  have h1:=Int.emod_lt_of_pos (g / 2 ^ k) (show (0:Int) < 2 by decide)
  show _ \/ _
  omega
theorem Z0h {ins:Nat}{rows:List Row}{g:Int}{f:Flt}(hr:RowsOk ins rows) (hf:FltOk ins rows f):∀ x ∈ sJ ins rows g f,Bt x:=by
  refine wN hf.w hf.l rows _ (qY hf.w _ _ (fun x hx=>(by cases hx)) (vK ins g)) fun r hr'=>?_
  obtain⟨k,hk⟩:=List.getElem?_of_mem hr'
  exact⟨_,hr k r hk⟩
theorem Z0g {ins:Nat}{rows:List Row}{g:Int}{f:Flt}{i:Nat}(h:i < ins):(sJ ins rows g f)[i]? = some (bK (g / 2 ^ i % 2) i 1 f) :=
  qT (ss:=hZ ins g) (by simp [hZ,h])
theorem R4 {ins:Nat}{rows:List Row}{g:Int}{f:Flt}{k:Nat}{r:Row}(h:rows[k]? = some r) :
    (sJ ins rows g f)[ins + k]? = some (bK (iA r (legs r ((ins + k:Nat):Int) ((sJ ins rows g f).take (ins + k)) 1 f) 1) ((ins + k:Nat):Int) 1 f):=by
  have:=oE (o:=1) (f:=f) (ss:=hZ ins g) h
  have gl:(hZ ins g).length=ins:=by simp [hZ]
  rw [gl] at this
  exact this
end G
namespace PD
open PySem PySem.Spec PyProof.Rows L2
section
variable {prog:Program}{w:World}{A:Around}{E:Value->Shared->Prop}{s:Shared}{b l:Addr}
end
section
variable {X:Cx}{m m1:Bool}{rs rs1:List Nat}{a e:Expr}{fa:En->Option D}{pos pos2 p p2:Pos}
end
section
variable {prog:Program}{w:World}{K:Type}[DecidableEq K] {knd:HeapKind prog w K}{A:Around}{E:Value->Shared->Prop}{s:Shared}
end
section
variable {X:Cx}
end
section
variable {X:Cx}{m2:Bool}{rs2:List Nat}{fk:En->Option D}{pos:Pos}{i j:Nat}{call:Expr}
end
noncomputable def VEnts (h:Heap) (d:Addr) (es:Array DictEntry) (ep:Nat):Prop:=∃ o,h.get? d=some o /\ o.ExactDict /\ o.data=.dict es ep
theorem VEnts.keep {h h':Heap}{d:Addr}{es:Array DictEntry}{ep:Nat}(x:VEnts h d es ep) (k:∀ o,h.get? d=some o->h'.get? d=some o):VEnts h' d es ep:=by
  obtain⟨o,e,r⟩:=x
  exact⟨o,k o e,r⟩
theorem VEnts.lt {h:Heap}{d:Addr}{es:Array DictEntry}{ep:Nat}(x:VEnts h d es ep):d < h.objs.size:=by
  obtain⟨o,e,_⟩:=x
  exact Heap.lt_size e
theorem VEnts.ty {s:Shared}{d:Addr}{es:Array DictEntry}{ep:Nat}(x:VEnts s.heap d es ep):s.TypeIs (.ref d) "dict":=by
  obtain⟨o,e,c,_⟩:=x
  exact⟨o,e,c.1⟩
section
variable {prog:Program}{w:World}{A:Around}{E:Value->Shared->Prop}{s:Shared}{d v I:Addr}{es:Array DictEntry}{ep:Nat}
end
section
variable {X:Cx}{o:Expr}{to:TE}{pos cpos apos p p2:Pos}
end
section
variable {X:Cx}{m2:Bool}{rs2:List Nat}{fk:En->Option D}{a:Expr}{x y:Str}{pos p py pt pl apos cpos apos2 cpos2 cpt:Pos}
end
theorem EnvS.drop {K:Frag}{P H:Hp}{σ:L2.St}{env:En}{F:Nat->List Addr}(j:Nat) (hF:EnvS K P H σ env F):EnvS K P H σ (env.set j none) F:=by
  have key:∀ {k:Nat}{s:Bool × D},(env.set j none)[k]? = some (some s)->env[k]? = some (some s):=fun {k s} e=>by
    by_cases hk:j=k
    . subst hk
      by_cases hj:j < env.length
      . rw [List.getElem?_set_self hj] at e;cases e
      . rw [List.getElem?_eq_none (by simp;omega)] at e;cases e
    . rwa [List.getElem?_set_ne hk] at e
  refine⟨fun k o d e=>hF.ok k o d (key e),fun k d e=>?_⟩
  obtain⟨a1,a2,a3,a4⟩:=hF.own k d (key e)
  exact⟨a1,a2,a3,fun l s hl es=>a4 l s hl (key es)⟩
theorem SInv.drop {K:Frag}{P H:Hp}{σ:L2.St}{env:En}(j:Nat) (h:SInv K P H σ env):SInv K P H σ (env.set j none) :=
  ⟨h.same,by rw [List.length_set];exact h.len,h.ex.imp fun _ hF=>hF.drop j⟩
theorem SInv.put {K:Frag}{P H:Hp}{σ:L2.St}{env:En}(j:Nat) (x:Option V) (h:SInv K P H σ env) (hj:env[j]? = some none):SInv K P H (σ.set j x) env:=by
  obtain⟨F,hF⟩:=h.ex
  have key:∀ {k:Nat}{s:Bool × D},env[k]? = some (some s)->j ≠ k:=fun e z=>by rw [z,e] at hj;cases hj
  refine⟨h.same,by rw [List.length_set];exact h.len,F,fun k o d e=>?_,fun k d e=>?_⟩
  . obtain⟨v,hv,r⟩:=hF.ok k o d e
    exact⟨v,by rw [List.getElem?_set_ne (key e)];exact hv,r⟩
  . obtain⟨a1,a2,a3,a4⟩:=hF.own k d e
    exact⟨a1,a2,fun v hv=>a3 v (by rwa [List.getElem?_set_ne (key e)] at hv),a4⟩
open Classical in
section
variable {X:Cx}{i j:Nat}{x y:Str}{d:D}{v0:V}{e:Expr}{pos py p px apos cpos epos:Pos}
end
section
variable {X:Cx}{m m' m1 m2:Bool}{rs rs' rs1 rs2:List Nat}{e a b c:Expr}{f fa fb:En->Option D}{pos p p2 p3 pos':Pos}
end
section
variable {X:Cx}{s g t f:Nat}{sts:List Stmt}
end
section
variable {X:Cx}{m m' m1 m2:Bool}{rs rs' rs1 rs2:List Nat}{e a b c:Expr}{f fa fb:En->Option D}{pos p p2 p3 pos':Pos}
end
section
variable {X:Cx}
noncomputable def wP:V->List V->Hp->VK->Prop:=fun x vs H Q=>∃ d kvs k y,x=.ref d /\ vs=[kV k,y] /\ H d=some (.dK kvs) /\ kvs.length < sizeLine /\
  ((∀ v,jL kvs k=some v->Q v H) /\ (jL kvs k=none->Q y (upd H d (.dK (lB kvs k y)))))
theorem zU:MtR X "dict.setdefault" wP:=by
  intro pins s σ H x xs v us Q I r rs h
  obtain⟨d,kvs,k,y,rfl,rfl,hd,hl,q1,q2⟩:=h
  cases r
  cases rs with
  | cons r1 rs =>
    cases rs with
    | cons r2 rs =>
      cases rs
      rename_i key dflt
      obtain⟨z,hs,vs,rel,dd⟩:=J3 I.hok hd
      have hz:vs.length <= sizeLine:=by rw [<- rel.length];exact z
      refine wpAny_call_entry PySem.F.slot_dict_setdefault dd.typeIs PySem.F.entry_dict_setdefault ?_ (PySem.F.args_dict_setdefault_3 _ _ _)
      unfold Builtin.«dict.setdefault»
      refine wpAny_bind ?_
      unfold Builtin.Dict.keyAndDefault
      refine wpAny_bind (wpAny_notOrdered_dict dd.typeIs ?_)
      show wpAny _ _ (pure (d,key,some dflt)) _ _ s
      refine wpAny_pure ?_
      show wpAny _ _ (if (d == sysModules)=true then _ else (dictSetDefault d key dflt >>= _)) _ _ s
      rw [if_neg (by rw [hs];decide)]
      refine wpAny_bind (kt_dictSetDefault_pairs (hsz:=hz) (E4 r1) dd (fun p hp=>?_) fun no hp' dd' same=>?_)
      . have rv:=rel.val k
        rw [hp] at rv
        obtain⟨y',hy,ry⟩:∃ y',jL kvs k=some y' /\ RelV y' p:=by
          cases hv:jL kvs k with
          | none=>rw [hv] at rv;exact (by cases rv)
          | some y'=>rw [hv] at rv;exact⟨y',rfl,rv⟩
        exact wpAny_pure ⟨_,rfl,y',H,I.tok _,ry,q1 y' hy⟩
      . have rv:=rel.val k
        rw [no] at rv
        have hv:jL kvs k=none:=by
          cases hv:jL kvs k with
          | none=>rfl
          | some y'=>rw [hv] at rv;cases rv
        have hlen:(lB kvs k y).length <= sizeLine:=by have:=lZ kvs k y;omega
        have he:∃ q,hp'.get? d=some q:=let ⟨q,_,_,hq,_⟩:=dd';⟨q,hq⟩
        exact wpAny_pure ⟨_,rfl,y,_,vO I (by rw [hd];exact True.intro) same he (Z09 hlen hs (rel.put k r2) dd'),r2,q2 hv⟩
noncomputable def Z0G (i:Nat) (fk fv:En->Option D):En->Res:=fun env=>match env[i]?,fk env,fv env with
  | some (some (true,.dk ks ds)),some kd,some vd=>match keyOf kd with
    | some k=>if ks.length < 1000 /\ flats ds=true /\ flat vd=true then
        if rP k ks=true then .next env else .next (env.set i (some (true,.dk (ks ++ [k]) (ds ++ [vd]))))
      else .bad
    | none=>.bad
  | _,_,_=>.bad
variable {m1 m2:Bool}{rs1 rs2:List Nat}{fk fv:En->Option D}{call:Expr}{pos:Pos}{i:Nat}
theorem Z26 (hpe:PE X call (tBM X.K "dict" wP (wJ i) (C6 (tD X.K m2 rs2 fk) (C6 (tD X.K m1 rs1 fv) Z1X))))
    (hs:swapsWith call none pos.line X.env=pure false:=by rfl):QS X (.Expr call pos) (Z0G i fk fv):=.mk (D7 hpe hs) fun E σ H ⟨P,env,I,q⟩=>by
  obtain⟨F,hF⟩:=I.ex
  unfold Z0G at q
  split at q
  . rename_i ks ds kd vd h1 h2 h3
    split at q
    . rename_i k hk
      split at q
      . rename_i hc
        obtain⟨v,hv1,_⟩:=hF.ok i true _ h1
        obtain⟨o1,o2,o3,o4⟩:=hF.own i _ h1
        have r0:=o3 v hv1
        simp only [Rep] at r0
        obtain⟨a,vs,fp',rfl,hFi,ha,hlen,hr⟩:=r0
        refine⟨.ref a,hv1,.inr (.inr (.inl ⟨rfl,.inl ⟨_,ha⟩⟩)),env,F,_,hF.ok,h2,fun vk H1 fp1 s1 r1 c1=>⟨env,F,_,hF.ok.same s1,h3,fun vv H2 fp2 s2 r2 c2=>?_⟩⟩
        have s:=s1.trans s2
        have ek:=oY hk r1
        subst ek
        obtain⟨fe,gf⟩:=Rep.flat _ _ _ hc.2.2 r2
        obtain⟨ff,gs⟩:=Reps.flat _ _ _ hc.2.1 hr
        subst ff
        refine⟨a,ks.zip vs,k,vv,rfl,rfl,s _ _ ha,kI (by rw [List.length_zip];omega),fun v' hv'=>?_,fun hn=>?_⟩
        . split at q
          . exact q _ _ (I.grow s)
          . rename_i hni
            exfalso
            rw [qU] at hv'
            have:=mR (k:=k) (ks:=ks) (xs:=vs) hlen
            rw [hv'] at this
            exact hni this.symm
        . have hni:¬ rP k ks=true:=fun z=>by
            rw [qU] at hn
            have:=mR (k:=k) (ks:=ks) (xs:=vs) hlen
            rw [hn,z] at this
            cases this
          rw [if_neg hni] at q
          refine q _ _ ?_
          have hz:lB (ks.zip vs) k vv=(ks ++ [k]).zip (vs ++ [vv]):=by rw [V9 _ hn,List.zip_append hlen];rfl
          rw [hz]
          have ra:Reps X.K true H2 (ds ++ [vd]) (vs ++ [vv]) []:=by
            have:=((gs true).same s).snoc (gf true)
            simpa using this
          refine qQ (fp2:=[]) (I.same.trans s) I.len (hF.grow s) h1 hv1 hFi (s _ _ ha) (by intro xs z;cases z) (by intro x u z;cases z) (fun st=>?_) (by simp) (fun b hb=>(by cases hb))
          simp only [Rep]
          have kp:Kp [] H2 (upd H2 a (.dK ((ks ++ [k]).zip (vs ++ [vv])))):=Kp.upd (s _ _ ha) (by intro xs z;cases z) (by intro x u z;cases z) (by simp)
          refine⟨a,vs ++ [vv],[],rfl,rfl,aV,by simp [hlen],?_⟩
          cases st
          . exact Reps.weak _ _ _ (Reps.keep _ _ _ kp ra)
          . exact Reps.keep _ _ _ kp ra
      . exact q.elim
    . exact q.elim
  . exact q.elim
end
section
variable {X:Cx}{pins:List (Addr × Obj)}{σ:L2.St}{H:Hp}{s:Shared}{d:Addr}{kvs:List (Key × V)}{o:Obj}
theorem Z1d (I:Inv X pins σ H s) (hd:H d=some (.dK kvs)):∃ o,s.heap.get? d=some o /\ Inv X pins σ (upd H d (.frz o (.dK kvs))) s:=by
  have hok:=I.hok d _ hd
  obtain⟨z,hs,vs,rel,dd⟩:=J3 I.hok hd
  obtain⟨o,es,ep,ho,_⟩:=id dd
  have ne:∀ {b:Addr},H b=none->b ≠ d:=fun h z=>by rw [z,hd] at h;cases h
  refine⟨o,ho,I.ok,I.os,I.bare,⟨I.base.keep,I.base.slot,fun b q h1 h2 h3=>?_,I.base.there,fun b xs e=>?_,fun b q u e=>?_,fun b ps e=>?_⟩,I.loc,I.cell,?_,fun x c e=>?_,fun p hp=>?_,fun b u e=>?_,I.len⟩
  . have:=I.base.free b q h1 h2 h3
    rw [aM (ne this)];exact this
  . have:=I.base.tups b xs e
    rw [aM (fun z=>by rw [z,hd] at this;cases this)];exact this
  . have:=I.base.frzs b q u e
    rw [aM (fun z=>by rw [z,hd] at this;cases this)];exact this
  . obtain⟨m,e1⟩:=I.base.tbls b ps e
    exact⟨m,by rw [aM (fun z=>by rw [z,hd] at e1;cases e1)];exact e1⟩
  . rw [aM (ne I.free)];exact I.free
  . rw [aM (ne (I.freeC x c e))];exact I.freeC x c e
  . obtain⟨a1,a2,a3⟩:=I.pin p hp
    exact⟨a1,by rw [aM (ne a2)];exact a2,a3⟩
  . by_cases hb:b=d
    . subst hb
      rw [aV] at e;cases e
      exact⟨ho,z,hs,vs,rel,dd⟩
    . rw [aM hb] at e
      exact (I.hok b u e).stay (fun c q _ r=>r) (fun c qc=>by rw [aM (fun z=>by rw [z,hd] at qc;cases qc)];exact qc) fun c xs qc=>by rw [aM (fun z=>by rw [z,hd] at qc;cases qc)];exact qc
theorem P2 (I:Inv X pins σ H s) (hd:H d=some (.frz o (.dK kvs))) (h0:∀ o u,X.H₀ d ≠ some (.frz o u)):Inv X pins σ (upd H d (.dK kvs)) s:=by
  have ne:∀ {b:Addr},H b=none->b ≠ d:=fun h z=>by rw [z,hd] at h;cases h
  obtain⟨ho,hok⟩:s.heap.get? d=some o /\ ObjOk X.prog X.w H s.heap d (.dK kvs):=I.hok d _ hd
  refine⟨I.ok,I.os,I.bare,⟨I.base.keep,I.base.slot,fun b q h1 h2 h3=>?_,I.base.there,fun b xs e=>?_,fun b q u e=>?_,fun b ps e=>?_⟩,I.loc,I.cell,?_,fun x c e=>?_,fun p hp=>?_,fun b u e=>?_,I.len⟩
  . have:=I.base.free b q h1 h2 h3
    rw [aM (ne this)];exact this
  . have:=I.base.tups b xs e
    rw [aM (fun z=>by rw [z,hd] at this;cases this)];exact this
  . have:=I.base.frzs b q u e
    rw [aM (fun z=>by rw [z] at e;exact h0 _ _ e)];exact this
  . obtain⟨m,e1⟩:=I.base.tbls b ps e
    exact⟨m,by rw [aM (fun z=>by rw [z,hd] at e1;cases e1)];exact e1⟩
  . rw [aM (ne I.free)];exact I.free
  . rw [aM (ne (I.freeC x c e))];exact I.freeC x c e
  . obtain⟨a1,a2,a3⟩:=I.pin p hp
    exact⟨a1,by rw [aM (ne a2)];exact a2,a3⟩
  . by_cases hb:b=d
    . subst hb
      rw [aV] at e;cases e
      exact hok
    . rw [aM hb] at e
      exact (I.hok b u e).stay (fun c q _ r=>r) (fun c qc=>by rw [aM (fun z=>by rw [z,hd] at qc;cases qc)];exact qc) fun c xs qc=>by rw [aM (fun z=>by rw [z,hd] at qc;cases qc)];exact qc
theorem Z2o {e:Expr}{t:TE}(h:PE X e t):PE X e (fun σ H Q=>∃ d kvs,H d=some (.dK kvs) /\ ∀ o,t σ (upd H d (.frz o (.dK kvs))) fun v H2=>H2 d=some (.frz o (.dK kvs)) /\ Q v (upd H2 d (.dK kvs))):=by
  intro pins s σ H Q I ⟨d,kvs,hd,q⟩
  obtain⟨o,ho,I1⟩:=Z1d I hd
  have h0:∀ o u,X.H₀ d ≠ some (.frz o u):=fun o u e=>by
    have:=I.base.frzs d o u e
    rw [hd] at this;cases this
  exact thn (h pins s σ _ _ I1 (q o)) fun v s1 ⟨x,H2,I2,r,h2,q2⟩=>⟨x,_,P2 I2 h2 h0,r,q2⟩
noncomputable def Itk (d:Addr) (o:Obj) (kvs:List (Key × V)):It :=
  ⟨fun i H=>H d=some (.frz o (.dK kvs)) /\ i < kvs.length,fun i H x H'=>H'=H /\ ∃ k v,kvs[i]? = some (k,v) /\ x=kV k,fun i H=>H d=some (.frz o (.dK kvs)) /\ kvs.length <= i⟩
theorem pF {knd:PySem.KeyKind X.prog X.w Key}{h:Heap}{vs:List (Key × Value)}{es:Array DictEntry}{ep:Nat}(ho:h.get? d=some o) (hd:o.data=.dict es ep) (dd:h.DictOf knd d vs):h.DictAt knd d vs ep:=by
  obtain⟨o',es',ep',ho',hc,hd',r⟩:=dd
  rw [ho] at ho'
  cases ho'
  rw [hd] at hd'
  cases hd'
  exact⟨o,es,ho,hc,hd,r⟩
theorem yT {P:Program}{w:World}{K:Frag}{tg:Expr}(it:Addr) {es:Array DictEntry}{ep:Nat}(hd:o.data=.dict es ep) (hne:d ≠ it):vV P w K tg (Itk d o kvs) [it] it (fun i h=>h.IsKeyIter it d i kvs.length ep) where
  mem:=by simp
  obj:=fun i h st b hb=>by
    have e:b=it:=by simpa using hb
    subst e
    obtain⟨o,e,c,d⟩:=st
    exact⟨o,e,fun v z=>by rw [d] at z;cases z⟩
  keep:=fun i h h' st k=>st.at fun o e=>k it (by simp) o e
  item:=by
    intro X hP hw hK hc i pins s σ H E I hf st hg
    subst hP hw hK
    obtain⟨hH,hi⟩:=hg
    obtain⟨ho,z,hs,vs,rel,dd⟩:s.heap.get? d=some o /\ kvs.length <= sizeLine /\ (d == sysModules)=false /\ ∃ vs,KV kvs vs /\ s.heap.DictOf (cQ X.prog X.w) d vs:=I.hok d _ hH
    have dA:=pF (X:=X) ho hd dd
    have hl:=rel.length
    rw [hl] at st ⊢
    obtain⟨f0,f1,f2,f3,f4,f5⟩:=hf it (by simp)
    have hx:=List.getElem?_eq_getElem (show i < vs.length by omega)
    refine wpAny_pyNext_dict_item st dA (k:=vs[i].1) (v:=vs[i].2) hx fun key h' hkey st' sb=>?_
    have I1:Inv X pins σ H { s with heap:=h' }:=I.turned (t':=s.toks) (fun b o hb e=>(sb.2 b hb).trans e) f0 f1 f3 f4 f5
    obtain⟨o2,e2,c2,d2⟩:=id st'
    have hkk:(kvs.map (·.1))[i]? = some vs[i].1:=by rw [rel.keys,List.getElem?_map,hx];rfl
    obtain⟨kv,hkv,ekv⟩:∃ kv,kvs[i]? = some kv /\ kv.1=vs[i].1:=by
      rw [List.getElem?_map] at hkk
      cases hq:kvs[i]? with
      | none=>rw [hq] at hkk;cases hkk
      | some kv=>rw [hq] at hkk;exact⟨kv,rfl,Option.some.inj hkk⟩
    have rk:RelV (kV vs[i].1) key:=by
      rcases cO (show pQ vs[i].1 key=true from hkey) with ⟨j,t,e,rfl⟩ | ⟨x,t,e,rfl⟩
      . rw [e];exact⟨t,rfl⟩
      . rw [e];exact⟨t,rfl⟩
    exact⟨key,rfl,xO (s:={ s with heap:=h' }) e2 c2 d2 (by decide) ⟨kV vs[i].1,H,I1,rk,⟨rfl,kv.1,kv.2,hkv,by rw [ekv]⟩,st',fun b hb=>(hf b hb).1⟩⟩
  done:=by
    intro X hP hw hK hc i pins s σ H E I hf st hg
    subst hP hw hK
    obtain⟨hH,hi⟩:=hg
    obtain⟨ho,z,hs,vs,rel,dd⟩:s.heap.get? d=some o /\ kvs.length <= sizeLine /\ (d == sysModules)=false /\ ∃ vs,KV kvs vs /\ s.heap.DictOf (cQ X.prog X.w) d vs:=I.hok d _ hH
    have dA:=pF (X:=X) ho hd dd
    have hl:=rel.length
    rw [hl] at st
    obtain⟨f0,f1,f2,f3,f4,f5⟩:=hf it (by simp)
    exact wpAny_pyNext_dict_end (I.ok.hd hc) st dA (List.getElem?_eq_none (by omega)) fun h' eb=>⟨rfl,I.turned (t':=s.toks) (fun b o hb e=>eb b o hb e) f0 f1 f3 f4 f5⟩
  self:=fun _ _ _ _ _ st h=>wpAny_pyIter_keyiter st h
theorem W4 {tg:Expr}{i:Nat}{x:Str}{p:Pos}(hN:X.N[i]? = some x) (hv:Vis X.env.scope x) (hdb:(x == ("__debug__" : Str))=false:=by decide) (hcd:(x == ("__classdict__" : Str))=false:=by decide) :
    PI X tg (.Name x p) (fun σ H R=>∃ d o kvs,σ[i]? = some (some (.ref d)) /\ H d=some (.frz o (.dK kvs)) /\ R (Itk d o kvs) H):=by
  intro pins s σ H R I ⟨d,o,kvs,e,hd,q⟩
  refine thn (iK hN hv hdb hcd pins s σ H (fun v H1=>v=.ref d /\ H1=H) I ⟨.ref d,e,rfl,rfl⟩) fun v s1 ⟨x,H1,I1,r1,ex,eH⟩=>?_
  subst ex eH
  cases r1
  obtain⟨ho,z,hs,vs,rel,dd⟩:s1.heap.get? d=some o /\ kvs.length <= sizeLine /\ (d == sysModules)=false /\ ∃ vs,KV kvs vs /\ s1.heap.DictOf (cQ X.prog X.w) d vs:=I1.hok d _ hd
  obtain⟨o',es,ep,ho',hc,hdat,hrest⟩:=id dd
  rw [ho] at ho'
  cases ho'
  have dA:=pF (X:=X) ho hdat dd
  have hlt:=Heap.lt_size ho
  refine wpAny_pyIter_dict hs dA ?_
  refine⟨s1.heap.objs.size,[s1.heap.objs.size],_,_,H1,rfl,I1.kept (t':=s1.toks) fun b o e=>Heap.get?_push_of_some _ e,yT (kvs:=kvs) s1.heap.objs.size hdat (Nat.ne_of_lt hlt),⟨_,Heap.get?_push_size _ rfl,rfl,by rw [rel.length];rfl⟩,fun b hb=>?_,q⟩
  have e:b=s1.heap.objs.size:=by simpa using hb
  subst e
  exact I1.fpOk (Nat.le_refl _) (I1.hok.fresh (Nat.le_refl _))
end
noncomputable def A1:Key->D
  | .inl i=>.int i
  | .inr x=>.str x
theorem Z3 {K:Frag}{H:Hp}{st:Bool}(k:Key):Rep K st H (A1 k) (kV k) []:=by
  cases k <;> (simp only [A1,Rep];exact⟨rfl,trivial⟩)
mutual
theorem Rep.keepF {K:Frag}{st:Bool}{H H':Hp}(ht:∀ a xs,SqT K H a xs->SqT K H' a xs):∀ (d:D) (v:V) (fp:List Addr),flat d=true->Rep K st H d v fp->Rep K st H' d v fp
  | .non,v,fp,_,h=>by simpa only [Rep] using h
  | .bl _,v,fp,_,h=>by simpa only [Rep] using h
  | .int _,v,fp,_,h=>by simpa only [Rep] using h
  | .str _,v,fp,_,h=>by simpa only [Rep] using h
  | .tup ds,v,fp,f,h=>by
    simp only [Rep] at h ⊢
    obtain⟨a,vs,e,hs,hr⟩:=h
    exact⟨a,vs,e,ht _ _ hs,Reps.keepF ht ds vs fp (by simpa only [PD.flat] using f) hr⟩
  | .lst _,v,fp,f,h=>by simp only [PD.flat] at f;cases f
  | .obj _ _ _,v,fp,f,h=>by simp only [PD.flat] at f;cases f
  | .dk _ _,v,fp,f,h=>by simp only [PD.flat] at f;cases f
  | .dt _ _,v,fp,f,h=>by simp only [PD.flat] at f;cases f
  | .exc _,v,fp,f,h=>by simp only [PD.flat] at f;cases f
  | .fn _ _ _,v,fp,f,h=>by simp only [PD.flat] at f;cases f
theorem Reps.keepF {K:Frag}{st:Bool}{H H':Hp}(ht:∀ a xs,SqT K H a xs->SqT K H' a xs):∀ (ds:List D) (vs:List V) (fp:List Addr),flats ds=true->Reps K st H ds vs fp->Reps K st H' ds vs fp
  | [],vs,fp,_,h=>by simpa only [Reps] using h
  | d :: ds,vs,fp,f,h=>by
    simp only [Reps] at h ⊢
    simp only [flats,Bool.and_eq_true] at f
    obtain⟨v,r,f1,f2,e1,e2,h1,h2⟩:=h
    exact⟨v,r,f1,f2,e1,e2,Rep.keepF ht d v f1 f.1 h1,Reps.keepF ht ds r f2 f.2 h2⟩
end
noncomputable def B5 (env:En) (j:Nat):Bool:=match env[j]? with
  | some (some (_,d))=>flat d
  | _=>true
noncomputable def wY (fr:List Nat) (env:En):En:=env.mapIdx fun j s=>if fr.contains j then s else none
noncomputable def sD (fr:List Nat) (i:Nat) (fc:En->Option Bool) (fe:En->Option D):En->Option D:=fun env=>match env[i]? with
  | some (some (_,.dk ks _))=>if fr.all (B5 env)=true then
      match dB fr (fun _=>some (ks.map A1)) fc fe (wY fr env) with
      | some (.lst ys)=>if flats ys=true then some (.lst ys) else none
      | _=>none
    else none
  | _=>none
section
variable {X:Cx}{rs:List Nat}{elt:Expr}{ifs:List Expr}{scope:Scope}{fr:List Nat}{fc:En->Option Bool}{fe:En->Option D}{pos px p:Pos}{i:Nat}{x y:Str}
theorem V4 (i:Nat) (hc:X.calm=true) (chk:gY X.env.scope X.N scope fr=true) (hN:X.N[i]? = some y) (hv:Vis X.env.scope y)
    (hnd:(fD [x] fr X.N).Nodup) (hx:scope.names.lookup x=some .local)
    (ht:∀ cl C s0 H0 ex pins,QTs (fM X (fD [x] fr X.N) scope cl C s0 H0 ex pins) ifs fc)
    (he:∀ cl C s0 H0 ex pins,QE (fM X (fD [x] fr X.N) scope cl C s0 H0 ex pins) true [] elt fe)
    (hdb:(y == ("__debug__" : Str))=false:=by decide) (hcd:(y == ("__classdict__" : Str))=false:=by decide)
    (hs:∀ z,foldedSetIterable (.Name y p) X.env z=pure z:=by intro _;rfl) :
    QE X true [] (.ListComp elt [⟨.Name x px,.Name y p,ifs,0⟩] scope pos) (sD fr i fc fe) :=
  .mk (Z2o (D9 (tgs:=[x]) (tt:=tDT X.K fc) (te:=tD X.K true [] fe) hc chk (W4 hN hv hdb hcd) (fun cl C s0 H0 ex pins=>dU (i:=0) hnd rfl (.inl (lookup_relabel_local hx)) (.inr (lookup_relabel_local hx))) ht he hs)) fun σ H Q ⟨env,F,d,ok,e,q⟩=>by
    unfold sD at e
    split at e
    . rename_i ow ks ds h1
      split at e
      . rename_i hfl
        split at e
        . rename_i ys hcomp
          split at e
          . rename_i hys
            cases e
            obtain⟨v,hv1,hv2⟩:=ok i ow _ h1
            simp only [Rep] at hv2
            obtain⟨a,vs,fp',rfl,hFi,ha,hlen,hr⟩:=hv2
            refine⟨a,ks.zip vs,ha,fun o=>?_⟩
            have st1:∀ b xs,SqT X.K H b xs->SqT X.K (upd H a (.frz o (.dK (ks.zip vs)))) b xs:=C8 ha (by intro xs z;cases z) (by intro q xs z;cases z)
            have oke:EnvOk X.K (upd H a (.frz o (.dK (ks.zip vs)))) σ (wY fr env) (fun _=>[]):=fun j o' d' ej=>by
              unfold wY at ej
              rw [List.getElem?_mapIdx] at ej
              cases hj:env[j]? with
              | none=>rw [hj] at ej;cases ej
              | some sl =>
                rw [hj] at ej
                simp only [Option.map_some,Option.some.injEq] at ej
                split at ej
                . rename_i hin
                  subst ej
                  obtain⟨u,hu1,hu2⟩:=ok j o' d' hj
                  have hfj:flat d'=true:=by
                    have:=(List.all_eq_true.mp hfl) j (by simpa using hin)
                    unfold B5 at this
                    rw [hj] at this
                    exact this
                  obtain⟨_,g⟩:=Rep.flat _ _ _ hfj hu2
                  exact⟨u,hu1,Rep.keepF st1 _ _ _ hfj (g false)⟩
                . cases ej
            have hr0:=pH (K:=X.K) (rs:=[]) (fr:=fr) (src:=fun _=>some (ks.map A1)) (fc:=fc) (fe:=fe) (σ:=σ) (H:=upd H a (.frz o (.dK (ks.zip vs))))
              (Q:=fun v H2=>H2 a=some (.frz o (.dK (ks.zip vs))) /\ Q v (upd H2 a (.dK (ks.zip vs)))) ⟨wY fr env,fun _=>[],_,oke,hcomp,fun v H2 fp s r c=>?_⟩
            . obtain⟨_,_,ds',_,eds,k⟩:=hr0
              cases eds
              refine⟨a,o,ks.zip vs,hv1,aV,k (Itk a o (ks.zip vs)) _ [] (Same.refl _) (fun H2 kp j=>?_) (fun b hb=>(by cases hb)) .nil⟩
              have hz:(ks.zip vs).length=ks.length:=by rw [List.length_zip];omega
              have hd2:=kp.frz _ _ _ (aV (H:=H) (a:=a) (o:=.frz o (.dK (ks.zip vs))))
              refine⟨fun d' ed=>?_,fun hl=>⟨hd2,by rw [List.length_map] at hl;omega⟩⟩
              obtain⟨kk,hkk,rfl⟩:∃ kk,ks[j]? = some kk /\ d'=A1 kk:=by
                rw [List.getElem?_map] at ed
                cases hq:ks[j]? with
                | none=>rw [hq] at ed;cases ed
                | some kk=>rw [hq] at ed;exact⟨kk,rfl,(Option.some.inj ed).symm⟩
              have hjl:j < ks.length:=(List.getElem?_eq_some_iff.mp hkk).1
              refine⟨⟨hd2,by omega⟩,fun x' H3 ⟨eH,k',v',hkv,ex⟩=>?_⟩
              subst eH ex
              have:k'=kk:=by
                rw [List.getElem?_zip_eq_some] at hkv
                rw [hkv.1] at hkk
                exact Option.some.inj hkk
              subst this
              exact⟨Same.refl _,[],Z3 k',fun b hb=>(by cases hb)⟩
            . have h2:H2 a=some (.frz o (.dK (ks.zip vs))):=s _ _ aV
              refine⟨h2,?_⟩
              obtain⟨p',us,fp2,ep,hs2,hr2,hsub⟩:=bP r
              obtain⟨a',us',fpx,ep',hfp,ha',hr'⟩:=jC r
              subst ep'
              have hna:a' ≠ a:=fun z=>by
                have:=(c.2 rfl).2 a' (by rw [hfp];exact List.mem_cons_self)
                rw [z,aV] at this;cases this
              have st2:∀ b xs,SqT X.K H2 b xs->SqT X.K (upd H2 a (.dK (ks.zip vs))) b xs:=C8 h2 (by intro xs z;cases z) (by intro q xs z;cases z)
              obtain⟨e0,gys⟩:=Reps.flat _ _ _ hys hr'
              subst e0
              refine q _ _ [a'] ?_ (zD (by rw [aM hna];exact ha') (Reps.keepF st2 _ _ _ hys (gys true))) ?_
              . intro b ob eb
                by_cases hb:b=a
                . subst hb
                  rw [aV]
                  rw [ha] at eb
                  exact eb
                . rw [aM hb]
                  exact s _ _ (by rw [aM hb];exact eb)
              . have hn:H a'=none:=by
                  have:=(c.2 rfl).2 a' (by rw [hfp];exact List.mem_cons_self)
                  rwa [aM hna] at this
                refine⟨fun b hb=>.inl ?_,fun _=>⟨by simp,fun b hb=>?_⟩⟩
                . rw [List.mem_singleton.mp hb];exact hn
                . rw [List.mem_singleton.mp hb];exact hn
          . cases e
        . cases e
      . cases e
    . cases e
end
section
variable {X:Cx}{m m1 m2:Bool}{rs rs1 rs2:List Nat}{o e:Expr}{fo fe:En->Option D}{apos cpos:Pos}
end
section
variable {X:Cx}{m m1 m2:Bool}{rs rs1 rs2:List Nat}{k v:Expr}{fk fv:En->Option D}{pos:Pos}{ks:List (Option Expr)}{vs:List Expr}{fp fr:En->Option (List (Key × Int))}
end
section
variable {X:Cx}{m m1:Bool}{rs rs1:List Nat}{a:Expr}{fa:En->Option D}{pos:Pos}
end
end PD
namespace L2
open PySem PySem.Spec PyProof.Rows
theorem Z1j {CX:CXT}{P:Program}{w:World}{K:Frag}{mg:Str->Option Value}{base:Heap}{k:Nat}{f:Addr}{name qual:Str}{params:Arguments}{body:List Stmt}{scope:Scope}{dV kV doc pm cdv ct oc:Value}{an od:Option Addr}
    {osl:Array (Option Value)}{N ps:List Str}{A:Around}{outer:List Env}{s:Shared}{H:Hp}{args:Args}{us:List Value}{vs:List V}{Q:VK}{E:XK}(lk:K.lookup f=some ⟨oc,od,.func (fnOf name qual params body scope dV kV doc pm an cdv ct),osl⟩) (hcd:codeIn K cdv qual=true) (S:aT N ps scope)
    (hl:vs.length=ps.length) (hr:Room (k + 1) A) (e0:Env0 P w K mg base A outer s H) (hb:BindsTo s (fnOf name qual params body scope dV kV doc pm an cdv ct) args (ps.zip us)) (r:Vals vs us)
    (hbody:Room k (A.deeper (envOfC qual scope s.heap.objs.size f cdv))->∃ t,PSs (pG CX P w K mg base N qual scope f cdv A outer s H E) body t /\ t { nx:=fun _ H'=>Q .non H',rt:=Q } (start N vs) H) :
    codeAny (model P w) A (.call (.ref f) args) (CR CX outer P w H s Q E) s:=by
  have KX:K.In s.heap:=e0.mod.kin.keeps fun b o e=>(e0.bs b o e).1
  have lim:s.heap.NoLimit:=e0.mod.nolimit.keeps fun b o e=>(e0.bs b o e).1
  have hkind:∀ y ∈ ps.zip us,scope.names.lookup y.1=some .local \/ (scope.names.lookup y.1=some .cell /\ ((cellsFrom (s.heap.objs.size + 1) scope.names []).lookup y.1).isSome=true):=fun⟨n,v⟩ hy=>by
    rcases S.par n (List.of_mem_zip hy).1 with q | q
    . exact .inl q
    . exact .inr ⟨q,PySem.W.cellsFrom_some _ _ _ (.inl q)⟩
  refine codeAny_call_function hr.depth (KX _ _ lk) rfl S.co S.gen rfl (PySem.W.codeRec_of KX hcd) (hb _ _ _ _ ?_)
  refine wpAny_newFunctionEnv_cells S.kind hkind fun env he s1 x=>?_
  subst he
  refine⟨lim.keeps x.toInCall.keep,codeAny_func ?_⟩
  obtain⟨t,ht,hq⟩:=hbody (hr.deeper _)
  have I:Inv (pG CX P w K mg base N qual scope f cdv A outer s H E) [] (start N vs) H s1:=tZ S hr.hd e0 hl r x
  refine wpAny_mono (ht [] s1 (start N vs) H _ I hq) (fun fl s' hs=>?_) fun e s' hs=>hs
  have fin:∀ {σ':St}{H':Hp}{v:V}{u:Value},Inv (pG CX P w K mg base N qual scope f cdv A outer s H E) [] σ' H' s'->RelV v u->Q v H'->CE outer P w H s Q u s' :=
    fun {σ' H' v u} J rv q=>⟨v,H',J.os,J.bare,J.base,J.hok,rv,q⟩
  cases fl with
  | ret u =>
    obtain⟨v,σ',H',J,rv,q⟩:=hs
    exact fin J rv q
  | next =>
    obtain⟨σ',H',J,q⟩:=hs
    exact fin (v:=V.non) (u:=Value.none) J rfl q
  | brk =>
    obtain⟨_,_,_,q⟩:=hs
    exact False.elim q
  | cont =>
    obtain⟨_,_,_,q⟩:=hs
    exact False.elim q
theorem O1 {P:Program}{w:World}{K:Frag}{mg mb:Str->Option Value}{CX:CXT}{k:Nat}{fa a:Addr}{fd:FuncData}{x:Str}{sp:Sp}{s₁:Shared}{vs:List Value}{ns:List Int}{c₀ P₀:Addr}{pos:Pos}{q₀:Str}
    (KX:K.In s₁.heap) (hns:s₁.heap.Ns mainGlobals mg) (hb:s₁.heap.Ns builtinsNs mb) (hbb:∀ x:Str,x ≠ "__name__" -> mb x=bootBuiltins x) (hlim:s₁.heap.NoLimit) (hg:s₁.gens = #[])
    (ha:s₁.heap.get? a=some { cls:=.type "list",data:=.seq vs.toArray }) (hi:IntsAre vs ns) (hl:ns.length <= sizeLine) (hr:Room k callerA)
    (hT:s₁.heap.TableAt c₀ P₀ #[]) (hKP:K.lookup P₀=none) (hBm:s₁.heap.BuiltinsAt mg P₀)
    (F:∀ base:Heap,K.In base->base.Ns mainGlobals mg->base.BuiltinsAt mg P₀->FnOk P w K mg base CX k fa fd [x] sp) (hbind:∀ (s:Shared) (u:Value),BindsTo s fd ⟨[u],[]⟩ [(x,u)])
    (hsp:∀ H:Hp,H P₀=some (.tbl #[(pos,q₀)])->SqL K H a (ns.map V.int)->sp [.ref a] H (fun v H'=>v=.bl true /\ H' P₀=some (.tbl #[(pos,q₀)])) fun _ _ _=>False)
    (hCX:∀ H e s',CX [] H s₁ (fun _ _ _=>False) e s'->False) :
    codeAny (model P w) callerA (.call (.ref fa) ⟨[.ref a],[]⟩) (fun r s'=>r=.ok (.ret (.bool true)) /\ OldK s₁.heap s'.heap /\ s'.os=s₁.os /\ AllBare s'.gens) s₁:=by
  have rv:=kF hi
  have lenV:=hi.length
  have hP:=hT.2
  have hPa:P₀ ≠ a:=fun z=>by rw [z,ha] at hP;cases hP
  have core:∀ H:Hp,H P₀=some (.tbl #[(pos,q₀)])->(H a=none \/ ∃ o xs,H a=some (.frz o (.lst xs)))->SqL K H a (ns.map V.int)->HOk P w H s₁.heap->(∀ b,H b ≠ none->b=a \/ b=P₀)->(H a ≠ none->K.lookup a=none) ->
      codeAny (model P w) callerA (.call (.ref fa) ⟨[.ref a],[]⟩) (fun r s'=>r=.ok (.ret (.bool true)) /\ OldK s₁.heap s'.heap /\ s'.os=s₁.os /\ AllBare s'.gens) s₁:=by
    intro H hHP hO hS hok hA hK
    have base_of:∀ {b:Addr}{o:Obj},s₁.heap.get? b=some o->H b=none->(sW s₁.heap H).get? b=some o:=fun e n=>Z00 e n
    have noA:∀ {b:Addr}{o:Obj}{es:Array DictEntry}{ep:Nat},s₁.heap.get? b=some o->o.data=.dict es ep->H b=none:=fun {b o es ep} e d=>by
      cases q:H b with
      | none=>rfl
      | some u =>
        rcases hA b (by rw [q];simp) with e' | e'
        . subst e'
          rw [ha] at e;cases e
          cases d
        . subst e'
          rw [hP] at e;cases e
          cases d
    have nsK:∀ {b:Addr}{m:Str->Option Value},s₁.heap.Ns b m->(sW s₁.heap H).Ns b m:=fun {b m} ⟨o,es,ep,e,d,r⟩=>⟨o,es,ep,base_of e (noA e d),d,r⟩
    have hKb:K.In (sW s₁.heap H):=fun b o e=>base_of (KX b o e) (by
      cases q:H b with
      | none=>rfl
      | some u =>
        rcases hA b (by rw [q];simp) with e' | e'
        . subst e'
          rw [hK (by rw [q];simp)] at e;cases e
        . subst e'
          rw [hKP] at e;cases e)
    have hBb:(sW s₁.heap H).BuiltinsAt mg P₀:=by
      obtain⟨bm,ob,b1,b2,b3,b4,b5,b6,b7⟩:=hBm
      refine⟨bm,ob,b1,b2,b3,b4,base_of b5 ?_,b6,b7⟩
      cases q:H bm with
      | none=>rfl
      | some u =>
        rcases hA bm (by rw [q];simp) with e' | e'
        . rw [e',ha] at b5;cases b5;exact absurd (show Value.type "list" = Value.type "module" from b6) (by decide)
        . exact absurd e' b4
    have hM:Mod K mg (sW s₁.heap H):=⟨hKb,nsK hns,⟨mb,nsK hb,hbb⟩,let ⟨mc,h1,h2⟩:=hlim;⟨mc,nsK h1,h2⟩⟩
    have e0:Env0 P w K mg (sW s₁.heap H) callerA [] s₁ H:=⟨rfl,hM,fun b o e=>Z14 e,Nat.le_of_eq (P3 _ _),trivial,fun b hb=>absurd (show b ∈ ([]:List Addr) from hb) (by simp),hok,.of_eq hg⟩
    refine codeAny_mono ((F _ hKb (nsK hns) hBb).run callerA [] s₁ H ⟨[.ref a],[]⟩ [.ref a] [.ref a] _ _ hr e0 (hbind s₁ (.ref a)) (.cons rfl .nil) (hsp H hHP hS)) fun r s' h=>?_
    cases r with
    | error e=>exact (hCX H e s' h).elim
    | ok fl =>
      cases fl with
      | next=>exact False.elim h
      | brk=>exact False.elim h
      | cont=>exact False.elim h
      | ret u =>
        obtain⟨v,H',os,bare,un,hok',r',q1,q2⟩:=h
        subst q1
        obtain rfl:u=Value.bool true:=r'
        have old:∀ b o,s₁.heap.get? b=some o->b ≠ P₀->s'.heap.get? b=some o:=fun b o e hbP=>by
          cases q:H b with
          | none=>exact un.keep b o e q (by intro z;exact absurd (show b ∈ ([]:List Addr) from z) (by simp)) (by simp)
          | some u =>
            rcases hA b (by rw [q];simp) with e' | e'
            . subst e'
              rcases hO with z | ⟨ob,xs,z⟩
              . rw [q] at z;cases z
              . have z2:=un.frzs b ob _ z
                obtain⟨e1,_⟩:=hok b _ z
                obtain⟨e2,_⟩:=hok' b _ z2
                rw [e] at e1;cases e1
                exact e2
            . exact absurd e' hbP
        obtain⟨ps,hps,_⟩:=(show ObjOk P w H' s'.heap P₀ (.tbl #[(pos,q₀)]) from hok' P₀ _ q2)
        refine⟨rfl,⟨fun b o e=>?_,fun b o e=>?_⟩,os,bare⟩
        . by_cases hbP:b=P₀
          . subst hbP
            rw [hP] at e;cases e
            exact .inr (.inl ⟨hT.isCodeTable,rfl,#[],ps,rfl,by rw [hps];simp⟩)
          . exact .inl (old b o e hbP)
        . by_cases hbP:b=P₀
          . subst hbP;exact⟨_,hps⟩
          . exact⟨o,old b o e hbP⟩
  have tx:∀ H:Hp,ObjOk P w H s₁.heap P₀ (.tbl #[(pos,q₀)]):=fun H=>⟨#[],hP,True.intro,fun p _=>.inl rfl⟩
  cases hk:K.lookup a with
  | some o =>
    have e:=KX a o hk
    rw [ha] at e
    cases e
    refine core (fun b=>if b=P₀ then some (.tbl #[(pos,q₀)]) else none) (if_pos rfl) (.inl (if_neg (Ne.symm hPa))) (.inr ⟨_,vs.toArray,_,hk,rfl,rfl,rfl,by rw [List.size_toArray,lenV];exact hl,by simpa using rv⟩) (fun b u z=>?_) (fun b z=>?_) fun z=>absurd (if_neg (Ne.symm hPa)) z
    . by_cases hb:b=P₀
      . have z':=(if_pos hb).symm.trans z
        cases z'
        subst hb
        exact tx _
      . have z':=(if_neg hb).symm.trans z
        cases z'
    . by_cases hb:b=P₀
      . exact .inr hb
      . exact absurd (if_neg hb) z
  | none =>
    refine core (fun b=>if b=P₀ then some (.tbl #[(pos,q₀)]) else if b=a then some (.frz { cls:=.type "list",data:=.seq vs.toArray } (.lst (ns.map V.int))) else none) (if_pos rfl) (.inr ⟨{ cls:=.type "list",data:=.seq vs.toArray },ns.map V.int,(if_neg (Ne.symm hPa)).trans (if_pos rfl)⟩) (.inl (.inr ⟨{ cls:=.type "list",data:=.seq vs.toArray },(if_neg (Ne.symm hPa)).trans (if_pos rfl)⟩)) (fun b u z=>?_) (fun b z=>?_) fun _=>hk
    . by_cases hbP:b=P₀
      . have z':=(if_pos hbP).symm.trans z
        cases z'
        subst hbP
        exact tx _
      . by_cases hb:b=a
        . have z':=((if_neg hbP).trans (if_pos hb)).symm.trans z
          cases z'
          subst hb
          exact⟨ha,by rw [List.length_map];exact hl,vs,_,rv,ha⟩
        . have z':=((if_neg hbP).trans (if_neg hb)).symm.trans z
          cases z'
    . by_cases hbP:b=P₀
      . exact .inr hbP
      . by_cases hb:b=a
        . exact .inl hb
        . exact absurd ((if_neg hbP).trans (if_neg hb)) z
noncomputable def TabIn (H:Hp) (P:Addr) (pq:Pos × Str):Prop:=∃ ps:Array (Pos × Str),H P=some (.tbl ps) /\ ps[0]? = some pq
theorem TabIn.un {fs ex:List Addr}{H H':Hp}{h h':Heap}{P:Addr}{pq:Pos × Str}(t:TabIn H P pq) (u:Un fs ex H H' h h'):TabIn H' P pq:=by
  obtain⟨ps,e,e0⟩:=t
  obtain⟨more,e'⟩:=u.tbls P ps e
  refine⟨_,e',?_⟩
  have hlt:0 < ps.size:=by
    by_cases hz:0 < ps.size
    . exact hz
    . rw [Array.getElem?_eq_none (by omega)] at e0;cases e0
  rw [Array.getElem?_append_left hlt]
  exact e0
section
variable {X:Cx}{pins:List (Addr × Obj)}{σ:St}{H:Hp}{s:Shared}
theorem Y5 {c P:Addr}{pos:Pos}{q:Str}{params:Arguments}{body:Expr}{scope:Scope}{cl:List (Str × Addr)}{Q:Value->Shared->Prop}{E:Value->Shared->Prop}(I:Inv X pins σ H s) (hc:X.env.code=.ref c) (C:PySem.W.CodeHd X.base c P) (hB:X.base.BuiltinsAt X.mg P)
    (hT:TabIn H P (pos,q)) (hq:X.env.qual ++ "<lambda>" = q) (hdef:defaultsOf params X.env=([],[])) (hcl:closureFor scope X.env=pure cl)
    (h:∀ a c' pm ctv oc s' H',Inv X pins σ H' s'->Same H H'->H' a=none->s.heap.objs.size <= a->s'.heap.get? a=some (PySem.W.kla_obj "<lambda>" q params body scope cl pm c' ctv)->H' c'=some (.frz oc (.cod q))->Q (.ref a) s') :
    wpAny (model X.prog X.w) X.A (eval (.Lambda params body scope pos) X.env) Q E s:=by
  obtain⟨ps,hP,h0⟩:=hT
  obtain⟨pv,hpv,ht,hcs⟩:=(show ObjOk X.prog X.w H s.heap P (.tbl ps) from I.hok P _ hP)
  have hg:s.heap.Ns mainGlobals X.mg:=I.mod.glob.keeps I.bk
  have hgP:mainGlobals ≠ P:=fun z=>by
    obtain⟨o,es,ep,e,hd,_⟩:=hg
    rw [z,hpv] at e;cases e;cases hd
  have C':PySem.W.CodeHd s.heap c P:=C.keeps I.bk
  have hB':s.heap.BuiltinsAt X.mg P:=hB.keeps I.bk
  have hLP:X.env.locals ≠ P:=fun z=>by have:=I.free;rw [z,hP] at this;cases this
  refine PySem.W.kla_eval hdef ?_
  rw [hq]
  rcases hcs _ h0 with hn | ⟨c',oc,hf,hc'⟩
  . refine PySem.W.kla_makeFunction hcl I.ok.glob hg hc C' hpv ht hn hgP hB' fun c' ctv h' tk hx hge hlt hrec htb=>?_
    obtain⟨c2,oc,vs,t,e2,hoc,hdc,hv⟩:=hrec
    cases e2
    have hHc:H c'=none:=I.hok.fresh hge
    have kp:∀ b o,b ≠ P->s.heap.get? b=some o->(h'.push (PySem.W.kla_obj "<lambda>" q params body scope cl ((X.mg "__name__").getD .none) c' ctv)).get? b=some o:=fun b o hb e=>Heap.get?_push_of_some _ (hx b o hb e)
    have nP:∀ b,H b=none->b ≠ P:=fun b hb z=>by rw [z,hP] at hb;cases hb
    have szh:s.heap.objs.size <= h'.objs.size:=Nat.le_trans hge (Nat.le_of_lt hlt)
    refine h h'.objs.size c' _ ctv oc _ (upd H c' (.frz oc (.cod q))) ?_ (fun b o e=>by rw [aM (aR e hHc)];exact e) ?_ szh (Heap.get?_push_size _ rfl) aV
    . refine Inv.step (s:=s) (t':=tk) (g':=s.gens) (d':=s.drawn) (ch:=[]) I (fun _ z=>nomatch z) (fun b o _ _ _ e n=>kp b o (nP b n) e) (fun b o _ _ _ e n=>⟨o.slots,kp b o (nP b n) e⟩)
        (fun b o _ e n=>by rw [aM (Nat.ne_of_lt (Nat.lt_of_lt_of_le (Heap.lt_size e) hge))];exact n) (fun b o _ e=>?_)
        (fun b xs e=>by rw [aM (aR e hHc)];exact e) (fun b o u e=>by rw [aM (aR e hHc)];exact e) (fun b ps e=>⟨#[],by rw [aM (aR e hHc),e];simp⟩) (fun m hm=>?_) (fun b u e=>?_) I.bare
      . by_cases hb:b=P
        . subst hb
          exact⟨_,Heap.get?_push_of_some _ htb⟩
        . exact⟨o,kp b o hb e⟩
      . obtain⟨o,es,ep,ho,r⟩:=hm
        exact⟨o,es,ep,kp _ o hLP ho,r⟩
      . by_cases hb:b=c'
        . subst hb
          rw [aV] at e;cases e
          exact⟨Heap.get?_push_of_some _ hoc,_,oc,vs,t,rfl,Heap.get?_push_of_some _ hoc,hdc,hv⟩
        . rw [aM hb] at e
          by_cases hbP:b=P
          . subst hbP
            rw [hP] at e;cases e
            refine⟨_,Heap.get?_push_of_some _ htb,?_,fun p hp=>.inr ⟨c',oc,?_,?_⟩⟩
            . rw [Array.toList_append]
              exact TriplesOk_snoc _ _ _ _ ht
            . rw [h0] at hp;cases hp
              rw [Array.toList_append]
              exact codeAmong_snoc _ ht hn
            . rw [h0] at hp;cases hp
              exact aV
          . refine (I.hok b u e).stay (fun d v hd r=>kp d v ?_ r) (fun d r=>by rw [aM (aR r hHc)];exact r) (fun d xs r=>by rw [aM (aR r hHc)];exact r) (fun d o q r=>by rw [aM (aR r hHc)];exact r)
            rcases hd with z | z
            . rw [z];exact hbP
            . rintro rfl
              rw [hP] at z;cases z
    . rw [aM (Nat.ne_of_gt hlt)]
      exact I.hok.fresh szh
  . refine PySem.W.kla_makeFunctionHit hcl I.ok.glob hg hc C' hpv ht hf hB' fun ctv h' tk hk hsz=>?_
    exact h h'.objs.size c' _ ctv oc _ H (I.kept (t':=tk) fun b o e=>Heap.get?_push_of_some _ (hk b o e)) (fun _ _ e=>e) (I.hok.fresh hsz) hsz (Heap.get?_push_size _ rfl) hc'
end
noncomputable def J4 (P:Program) (w:World) (K:Frag) (mg:Str->Option Value) (base:Heap) (N:List Str) (q:Str) (scope:Scope) (a c':Addr) (cl:List (Str × Addr)) (A:Around) (outer:List Env) (s:Shared) (H:Hp):Cx where
  prog:=P
  w:=w
  K:=K
  mg:=mg
  base:=base
  A:=A.deeper (PySem.W.envX q scope s.heap.objs.size a (.ref c') cl)
  N:=N
  s₀:=s
  H₀:=H
  env:=PySem.W.envX q scope s.heap.objs.size a (.ref c') cl
  outer:=outer
  stack:=PySem.W.envX q scope s.heap.objs.size a (.ref c') cl :: outer
  ex:=[]
  calm:=true
  fn:=fun _=>false
  pn:=[]
  xe:=fun _ _=>False
structure FnSt (q:Str) (params:Arguments) (body:Expr) (scope:Scope) (ns:List Str) (a:Addr) (dvs:List V) (s:Shared) (H:Hp) (fs:List Addr) (cl:List (Str × Addr)) (pm:Value) (c':Addr) (ctv:Value) (oc:Obj):Prop where
  fn:s.heap.get? a=some (PySem.W.kla_obj "<lambda>" q params body scope cl pm c' ctv)
  free:H a=none
  nfs:a ∉ fs
  code:H c'=some (.frz oc (.cod q))
  inj:∀ x y c,cl.lookup x=some c->cl.lookup y=some c->x=y
  has:∀ x,(x,NameKind.free) ∈ scope.names->∃ c,cl.lookup x=some c
  cell:∀ x c,cl.lookup x=some c->(∃ v,s.heap.IsCell c v) /\ H c=none /\ c ∉ fs
  len:dvs.length=ns.length
  vals:∀ (i:Nat) n dv,ns[i]? = some n->dvs[i]? = some dv->∃ c u,cl.lookup n=some c /\ s.heap.IsCell c (some u) /\ RelV dv u
theorem FnSt.now {X:Cx}{pins:List (Addr × Obj)}{σ:St}{H:Hp}{s:Shared}{q:Str}{params:Arguments}{body:Expr}{scope:Scope}{ns:List Str}{a:Addr}{dvs:List V}{cl:List (Str × Addr)}{pm:Value}{c':Addr}{ctv:Value}{oc:Obj}
    (F:FnSt q params body scope ns a dvs X.s₀ X.H₀ X.fs cl pm c' ctv oc) (I:Inv X pins σ H s) (hx:X.ex=[]):FnSt q params body scope ns a dvs s H X.fs cl pm c' ctv oc:=by
  have nx:∀ b,b ∉ X.ex:=fun b=>by rw [hx];simp
  have kc:∀ c v,X.H₀ c=none->c ∉ X.fs->X.s₀.heap.IsCell c v->s.heap.IsCell c v:=fun c v h1 h2 ⟨o,ho,hd⟩=>⟨o,I.base.keep c o ho h1 h2 (nx c),hd⟩
  refine⟨I.base.keep a _ F.fn F.free F.nfs (nx a),I.base.free a _ F.fn F.free (nx a),F.nfs,I.base.frzs _ _ _ F.code,F.inj,F.has,fun x c e=>?_,F.len,fun i n dv h1 h2=>?_⟩
  . obtain⟨⟨v,hv⟩,h1,h2⟩:=F.cell x c e
    have hv':=hv
    obtain⟨o,ho,hd⟩:=hv
    exact⟨⟨v,kc c v h1 h2 hv'⟩,I.base.free c o ho h1 (nx c),h2⟩
  . obtain⟨c,u,e1,e2,e3⟩:=F.vals i n dv h1 h2
    obtain⟨_,h3,h4⟩:=F.cell n c e1
    exact⟨c,u,e1,kc c _ h3 h4 e2,e3⟩
theorem Y6 {P:Program}{w:World}{K:Frag}{mg:Str->Option Value}{base:Heap}{CX:CXT}{k:Nat}{A:Around}{outer:List Env}{s:Shared}{H:Hp}{fs:List Addr}{q x:Str}{params:Arguments}{body:Expr}{scope:Scope}{ns:List Str}{a:Addr}{dvs:List V}{cl:List (Str × Addr)}{pm:Value}{c':Addr}{ctv:Value}{oc:Obj}{v:V}{u:Value}{Q:VK}{E:XK}{t:TE}
    (F:FnSt q params body scope ns a dvs s H fs cl pm c' ctv oc) (e0:Env0 P w K mg base A outer s H) (hr:Room (k + 1) A) (r:RelV v u)
    (hbind:bindArgs (PySem.W.kla_fn "<lambda>" q params body scope cl pm (.ref c') ctv) ⟨[u],[]⟩=pure [(x,u)]) (hx:scope.names.lookup x=some .local) (hns:∀ n ∈ ns,scope.names.lookup n=some .free) (hnc:∀ y ∈ scope.names,y.2 ≠ .cell)
    (hco:scope.isCoroutine=false) (hgen:scope.isGenerator=false) (hk:scope.kind=.function)
    (ht:Room k (A.deeper (PySem.W.envX q scope s.heap.objs.size a (.ref c') cl))->PE (J4 P w K mg base (x :: ns) q scope a c' cl A outer s H) body t) (hq:t (some v :: dvs.map some) H Q) :
    codeAny (model P w) A (.call (.ref a) ⟨[u],[]⟩) (CR CX outer P w H s Q E) s:=by
  have hd0:A.depth < recursionLimit:=by have:=hr.dp;omega
  have lim:s.heap.NoLimit:=e0.mod.nolimit.keeps fun b o e=>(e0.bs b o e).1
  obtain⟨_,hcd⟩:=(show ObjOk P w H s.heap c' (.frz oc (.cod q)) from e0.hok c' _ F.code)
  refine PySem.W.kla_callFunE hd0 F.fn rfl hco hgen rfl hcd ?_
  rw [hbind]
  refine wpAny_pure (wpAny_newFunctionEnv hnc (fun y hy=>?_) (fun h₁ hns₁ hsb=>⟨lim.fresh _ hsb,?_⟩) hk)
  . have:y=(x,u):=by simpa using hy
    subst this;exact hx
  show codeAny _ _ (.expr body (PySem.W.envX q scope s.heap.objs.size a (.ref c') cl)) _ _
  have hk₁:∀ b o,s.heap.get? b=some o->h₁.get? b=some o:=fun b o e=>hsb.extBut b o (Nat.ne_of_lt (Heap.lt_size e)) (Heap.get?_push_of_some _ e)
  have noA:∀ b:Addr,b ∉ (J4 P w K mg base (x :: ns) q scope a c' cl A outer s H).ex:=fun b z=>absurd (show b ∈ ([]:List Addr) from z) (by simp)
  have I:Inv (J4 P w K mg base (x :: ns) q scope a c' cl A outer s H) [] (some v :: dvs.map some) H { s with heap:=h₁,toks:=s.toks + [(x,u)].length }:=by
    refine⟨⟨e0.mod,hk,rfl,rfl,Nat.le_refl _,F.inj,fun y hy=>?_,fun y c hf _=>(by cases hf),fun _=>hr.hd,Around.frames_deeper e0.frames,.inr ⟨rfl,rfl⟩,fun b z=>absurd z (noA b),e0.bs,e0.bsz,fun b _ _=>noA b,fun b z=>absurd z (noA b),e0.funs,e0.frf⟩,
      rfl,e0.bare,Un.kept hk₁,⟨_,hns₁,fun i y v' h1 h2 h3=>?_⟩,fun y c e=>?_,e0.hok.fresh (Nat.le_refl _),fun y c e=>(F.cell y c e).2.1,fun p hp=>absurd (show p ∈ ([]:List (Addr × Obj)) from hp) (by simp),e0.hok.kept hk₁,?_⟩
    . have hy:scope.names.lookup y=some .cell \/ scope.names.lookup y=some .free:=hy
      rcases hy with hy | hy
      . exact absurd rfl (hnc _ (PySem.mem_of_lookup hy))
      . exact F.has y (PySem.mem_of_lookup hy)
    . cases i with
      | zero =>
        have h1:some x=some y:=h1
        have h2:some (some v)=some (some v'):=h2
        cases h1;cases h2
        exact⟨u,r,.inl ⟨hx,by simp⟩⟩
      | succ i =>
        have h1:ns[i]? = some y:=h1
        have h2:(dvs.map some)[i]? = some (some v'):=h2
        rw [List.getElem?_map] at h2
        cases hv:dvs[i]? with
        | none=>rw [hv] at h2;cases h2
        | some dv =>
          rw [hv] at h2;cases h2
          obtain⟨c,u',e1,e2,e3⟩:=F.vals i y _ h1 hv
          exact⟨u',e3,.inr ⟨.inr (hns y (List.mem_of_getElem? h1)),c,e1,e2.keeps hk₁⟩⟩
    . obtain⟨⟨v',z⟩,_⟩:=F.cell y c e
      exact⟨v',z.keeps hk₁⟩
    . show (some v :: dvs.map some).length=(x :: ns).length
      simp [F.len]
  refine PySem.W.kla_codeExpr (wpAny_mono (ht (hr.deeper _) [] _ _ H Q I hq) (fun u' s' hs=>?_) fun e s' z=>z.elim)
  obtain⟨v',H',J,rv,qq⟩:=hs
  exact⟨v',H',J.os,J.bare,J.base,J.hok,rv,qq⟩
end L2
namespace PD
open PySem PySem.Spec PyProof.Rows L2
theorem TabIn.same {H H':Hp}{P:Addr}{pq:Pos × Str}(t:TabIn H P pq) (s:Same H H'):TabIn H' P pq:=let ⟨ps,e,e0⟩:=t;⟨ps,s _ _ e,e0⟩
theorem Reps.fam {K:Frag}{st:Bool}{H:Hp}:∀ {ds:List D}{vs:List V}{fp:List Addr},Reps K st H ds vs fp->∃ F:Nat->List Addr,∀ (j:Nat) d,ds[j]? = some d->∃ v,vs[j]? = some v /\ Rep K st H d v (F j)
  | [],vs,fp,h=>⟨fun _=>[],fun j d e=>by simp at e⟩
  | d :: ds,vs,fp,h=>by
    simp only [Reps] at h
    obtain⟨v,r,f1,f2,rfl,rfl,h1,h2⟩:=h
    obtain⟨F,hF⟩:=Reps.fam h2
    refine⟨fun j=>match j with | 0=>f1 | j + 1=>F j,fun j d' e=>?_⟩
    cases j with
    | zero=>simp at e;subst e;exact⟨v,rfl,h1⟩
    | succ j=>exact hF j d' (by simpa using e)
noncomputable def J2 (d:D) (ds:List D):En:=some (false,d) :: ds.map fun x=>some (false,x)
theorem P9 {K:Frag}{H:Hp}{d:D}{ds:List D}{v:V}{dvs:List V}{f fp:List Addr}(r:Rep K false H d v f) (rs:Reps K false H ds dvs fp):∃ F,EnvOk K H (some v :: dvs.map some) (J2 d ds) F:=by
  obtain⟨F,hF⟩:=rs.fam
  refine⟨fun i=>match i with | 0=>f | i + 1=>F i,fun i o d' e=>?_⟩
  cases i with
  | zero =>
    simp [J2] at e
    obtain⟨_,rfl⟩:=e
    exact⟨v,rfl,r⟩
  | succ i =>
    simp only [J2,List.getElem?_cons_succ,List.getElem?_map] at e
    cases hd:ds[i]? with
    | none=>rw [hd] at e;cases e
    | some d2 =>
      rw [hd] at e
      simp only [Option.map_some,Option.some.injEq,Prod.mk.injEq] at e
      obtain⟨_,rfl⟩:=e
      obtain⟨w,h1,h2⟩:=hF i d2 hd
      exact⟨w,by simp [h1],h2⟩
noncomputable def St (q:Str) (params:Arguments) (body:Expr) (scope:Scope) (ns:List Str) (a:Addr) (dvs:List V) (s:Shared) (H:Hp) (fs:List Addr):Prop:=∃ cl pm c' ctv oc,FnSt q params body scope ns a dvs s H fs cl pm c' ctv oc
noncomputable def fFn (i:Nat) (a0:Addr) (dv0:List V) (fa:En->Option D) (g:En->Option D):En->Option D:=fun env=>match aB i env,fa env with
  | some (.fn a dvs ds),some d=>if a=a0 /\ dvs=dv0 then g (J2 d ds) else none
  | _,_=>none
section
variable {X:Cx}{m m' m1 m2:Bool}{rs rs' rs1 rs2:List Nat}{e e1 e2:Expr}{fa fb:En->Option D}{pos p:Pos}{k:Nat}
theorem uH {i:Nat}{env:En}{d:D}(h:aB i env=some d):∃ o,env[i]? = some (some (o,d)):=by
  unfold aB at h
  cases h1:env[i]? with
  | none=>rw [h1] at h;cases h
  | some o =>
    cases o with
    | none=>rw [h1] at h;cases h
    | some pr=>rw [h1] at h;cases h;exact⟨pr.1,rfl⟩
theorem M6 {i:Nat}{f x q:Str}{params:Arguments}{body:Expr}{scope:Scope}{ns:List Str}{a0:Addr}{dv0:List V}{g:En->Option D}(hN:X.N[i]? = some f) (hv:Vis X.env.scope f) (hex:X.ex=[]) (F:St q params body scope ns a0 dv0 X.s₀ X.H₀ X.fs) (hr:Room (k + 1) X.A) (ha:QE X m1 rs1 e fa)
    (hbind:∀ cl pm cd ctv u,bindArgs (PySem.W.kla_fn "<lambda>" q params body scope cl pm cd ctv) ⟨[u],[]⟩=pure [(x,u)]) (hx:scope.names.lookup x=some .local) (hns:∀ n ∈ ns,scope.names.lookup n=some .free) (hnc:∀ y ∈ scope.names,y.2 ≠ .cell)
    (hco:scope.isCoroutine=false) (hgen:scope.isGenerator=false) (hk:scope.kind=.function)
    (hb:∀ a c' cl A outer s H,Room k (A.deeper (PySem.W.envX q scope s.heap.objs.size a (.ref c') cl))->QE (J4 X.prog X.w X.K X.mg X.base (x :: ns) q scope a c' cl A outer s H) true [] body g)
    (hd:(f == ("__debug__" : Str))=false:=by decide) (hcd:(f == ("__classdict__" : Str))=false:=by decide)
    (he:starEach [e] X.env=(false,eval e X.env) :: starEach [] X.env:=by rfl) (hpl:(backTo pos (starEach [] X.env)).any (·.1)=false:=by rfl) :
    QE X true [] (.Call (.Name f p) [e] [] pos) (fFn i a0 dv0 fa g):=by
  intro pins s σ H Q I ⟨env,Fp,d,ok,e,q⟩
  unfold fFn at e
  split at e
  . rename_i a dvs ds dA h1 h2
    split at e
    . rename_i hh
      obtain⟨rfl,rfl⟩:=hh
      obtain⟨o,hs⟩:=uH h1
      obtain⟨v,hv1,hv2⟩:=ok i o _ hs
      simp only [Rep] at hv2
      obtain⟨rfl,hv2⟩:=hv2
      obtain⟨cl,pm,c',ctv,oc,F⟩:=F
      refine wpAny_Call_Name_kw (thn (iK (pos:=p) hN hv hd hcd pins s σ H (fun v H'=>v=V.ref a /\ H'=H) I ⟨_,hv1,rfl,rfl⟩) fun fv s1 ⟨v1,H1,I1,r1,hv1,hH⟩=>?_)
      subst hv1 hH
      cases (show fv=Value.ref a from r1)
      refine PySem.W.callWith_F ⟨_,_,_,_,(F.now I1 hex).fn⟩ (thn ((aD ha (aK (m:=m1) (rs:=rs1)) he) pos pins s1 σ H1 (fun vs H2=>∃ v f2,vs=[v] /\ Same H1 H2 /\ Rep X.K m1 H2 dA v f2) I1 ⟨env,Fp,[dA],ok,by simp [aC,aL,h2],fun vs H2 fp s2 r2 c2=>?_⟩) fun us s2 ⟨vs,H2,I2,rv,v,f2,hvs,sm,r2⟩=>?_) he hpl
      . obtain⟨v,rfl,r3⟩:=iP r2
        exact⟨v,fp,rfl,s2,r3⟩
      . subst hvs
        cases rv with
        | cons ru rr =>
          cases rr
          rename_i u
          have F2:=F.now I2 hex
          refine⟨⟨_,_,_,_,F2.fn⟩,wpAny_call (codeAny_mono (Y6 (CX:=CX0) (E:=E0) (t:=tD X.K true [] g) (Q:=Q) F2 I2.env0 hr ru (hbind _ _ _ _ _) hx hns hnc hco hgen hk (fun hr'=>hb a c' cl X.A X.stack s2 H2 hr') ?_) fun r s' hq=>?_)⟩
          . obtain⟨F',okL⟩:=P9 (Rep.weak _ _ _ r2) (hv2.same sm)
            exact⟨_,F',d,okL,e,fun v' H' fp' s3 r3 c3=>q v' H' fp' (sm.trans s3) r3 ⟨fun b hb=>.inl (sm.free ((c3.2 rfl).2 b hb)),fun _=>⟨(c3.2 rfl).1,fun b hb=>sm.free ((c3.2 rfl).2 b hb)⟩⟩⟩
          . cases r with
            | error e=>exact False.elim hq
            | ok fl =>
              cases fl with
              | ret u=>exact I2.after hq
              | next=>exact False.elim hq
              | brk=>exact False.elim hq
              | cont=>exact False.elim hq
    . cases e
  . cases e
structure Z0o (P:Program) (w:World) (K:Frag) (mg:Str->Option Value) (base:Heap) (k:Nat) (f:Addr) (fd:FuncData) (ps:List Str) (n:Nat) (S:Addr->List V->Shared->Hp->List Addr->Prop) (mm:Addr->List V->List D->Option D):Prop where
  run:∀ (A:Around) (outer:List Env) (s:Shared) (H:Hp) (args:Args) (us:List Value) (vs:List V) (Q:VK) (a:Addr) (dvs:List V),Room k A->Env0 P w K mg base A outer s H->S a dvs s H (frs outer)->BindsTo s fd args (ps.zip us)->Vals vs us->spD K n (mm a dvs) vs H Q E0 ->
    codeAny (model P w) A (.call (.ref f) args) (CR CX0 outer P w H s Q E0) s
theorem FunD.okL {P:Program}{w:World}{K:Frag}{mg:Str->Option Value}{base:Heap}{x qual:Str}{st:Stmt}{f:Addr}{fd:FuncData}{N ps:List Str}{k n L:Nat}{S:Addr->List V->Shared->Hp->List Addr->Prop}{g:Addr->List V->En->Res}(F:FunD K x qual st f fd) (S':aT N ps (aE st)) (hn:ps.length=n) (hL:N.length=L)
    (hb:∀ (a:Addr) (dvs:List V) (cdv:Value) (A:Around) (outer:List Env) (s:Shared) (H:Hp) (E:XK),Room k (A.deeper (envOfC qual (aE st) s.heap.objs.size f cdv))->S a dvs s H (frs outer)->QSs (pG CX0 P w K mg base N qual (aE st) f cdv A outer s H E).nox (aI st) (g a dvs)) :
    Z0o P w K mg base (k + 1) f fd ps n S (fun a dvs=>runF L (g a dvs)):=by
  subst hn hL
  obtain⟨oc,od,dV,kV,doc,pm,an,cdv,ct,osl,rfl,lk,hcd⟩:=F.ex
  refine⟨fun A outer s H args us vs Q a dvs hr e0 hS hbd rv hsp=>?_⟩
  have hl:=uQ hsp
  refine Z1j lk hcd S' hl hr e0 hbd rv fun hr'=>?_
  obtain⟨ds,d,fp,h1,h2,h3,q⟩:=hsp
  have hq:=hb a dvs cdv A outer s H E0 hr' hS
  refine⟨_,PSs.nox hq,H,enStart N.length ds,nA h2,?_⟩
  unfold runF at h3
  cases hg:g a dvs (enStart N.length ds) with
  | ret d' =>
    rw [hg] at h3
    cases h3
    exact fun v H' fp' s r fr nd=>q v H' fp' s r fr nd
  | next env' =>
    rw [hg] at h3
    cases h3
    exact fun σ' H' I'=>q .non H' [] I'.same oR (fun b hb=>(by cases hb)) List.nodup_nil
  | brk _=>rw [hg] at h3;cases h3
  | cont _=>rw [hg] at h3;cases h3
  | bad=>rw [hg] at h3;cases h3
end
noncomputable def Z3C (e:Expr) (i:Nat):Expr:=match e with
  | .Call _ as _ _=>as.getD i e
  | e=>e
noncomputable def Z42 (s:Stmt):Expr:=match s with
  | .Return (some e) _=>e
  | _=>.Name "" ⟨0,0,0,0⟩
noncomputable def Z47 (e:Expr):Arguments:=match e with
  | .Lambda a _ _ _=>a
  | _=>{ posonlyargs:=[],args:=[],vararg:=none,kwonlyargs:=[],kw_defaults:=[],kwarg:=none,defaults:=[] }
noncomputable def Z48 (e:Expr):Expr:=match e with
  | .Lambda _ b _ _=>b
  | e=>e
noncomputable def Z46 (e:Expr):Scope:=match e with
  | .Lambda _ _ s _=>s
  | _=>{ kind:=.function,names:=[],isGenerator:=false,isCoroutine:=false }
noncomputable def lamPos (e:Expr):Pos:=match e with
  | .Lambda _ _ _ p=>p
  | _=>⟨0,0,0,0⟩
noncomputable def Q2:List Nat->En->Option (List D)
  | [],_=>some []
  | j :: r,env=>match aB j env,Q2 r env with
    | some d,some ds=>some (d :: ds)
    | _,_=>none
theorem yF {K:Frag}{H:Hp}{σ:L2.St}{env:En}{F:Nat->List Addr}(ok:EnvOk K H σ env F):∀ {cap:List Nat}{ds:List D},Q2 cap env=some ds ->
    ∃ dvs fp,Reps K false H ds dvs fp /\ dvs.length=cap.length /\ ∀ (i j:Nat),cap[i]? = some j->∃ v,dvs[i]? = some v /\ σ[j]? = some (some v)
  | [],ds,h=>by
    simp only [Q2] at h
    cases h
    exact⟨[],[],by simp only [Reps];exact⟨trivial,trivial⟩,rfl,fun i j e=>by simp at e⟩
  | c :: r,ds,h=>by
    unfold Q2 at h
    split at h
    . rename_i d ds' h1 h2
      cases h
      obtain⟨dvs,fp,a1,a2,a3⟩:=yF ok h2
      obtain⟨o,hs⟩:=uH h1
      obtain⟨v,hv1,hv2⟩:=ok c o _ hs
      refine⟨v :: dvs,F c ++ fp,by simp only [Reps];exact⟨v,dvs,F c,fp,rfl,rfl,hv2,a1⟩,by simp [a2],fun i j e=>?_⟩
      cases i with
      | zero=>simp at e;subst e;exact⟨v,rfl,hv1⟩
      | succ i=>exact a3 i j (by simpa using e)
    . cases h
open Classical in
noncomputable def oW (mm:Addr->List V->List D->Option D) (d1 d2:D) (ds:List D):Option D:=if h:∃ d,∀ a dvs,mm a dvs [d1,d2,.fn a dvs ds]=some d then some h.choose else none
theorem O2 {mm:Addr->List V->List D->Option D}{d1 d2 d:D}{ds:List D}(h:oW mm d1 d2 ds=some d) (a:Addr) (dvs:List V):mm a dvs [d1,d2,.fn a dvs ds]=some d:=by
  unfold oW at h
  split at h
  . rename_i hh
    cases h
    exact hh.choose_spec a dvs
  . cases h
theorem O3 {mm:Addr->List V->List D->Option D}{d1 d2 d:D}{ds:List D}(h:∀ a dvs,mm a dvs [d1,d2,.fn a dvs ds]=some d):oW mm d1 d2 ds=some d:=by
  have hh:∃ d,∀ a dvs,mm a dvs [d1,d2,.fn a dvs ds]=some d:=⟨d,h⟩
  unfold oW
  rw [dif_pos hh,<- hh.choose_spec 0 [],h 0 []]
noncomputable def Z04 (cap:List Nat) (fa fb:En->Option D) (F':D->D->List D->Option D):En->Option D:=fun env=>match fa env,fb env,Q2 cap env with
  | some d1,some d2,some ds=>F' d1 d2 ds
  | _,_,_=>none
theorem Z1l {cap:List Nat}{fa fb:En->Option D}{F':D->D->List D->Option D}{env:En}{d1 d2 d:D}{ds:List D}(h1:fa env=some d1) (h2:fb env=some d2) (h3:Q2 cap env=some ds) (h:F' d1 d2 ds=some d):Z04 cap fa fb F' env=some d:=by
  unfold Z04
  rw [h1,h2,h3]
  exact h
structure wB (P:Program) (w:World) (K:Frag) (mg:Str->Option Value) (base:Heap) (x:Str) (k n:Nat) (S:Addr->List V->Shared->Hp->List Addr->Prop) (mm:Addr->List V->List D->Option D):Prop where
  ex:∃ fA fd ps,Z0o P w K mg base k fA fd ps n S mm /\ mg x=some (.ref fA) /\ keepIn K (.ref fA)=true /\ Binds K fd ps [] /\ ps.length=n
structure LamIn (fd:FuncData) (base:Heap) (mg:Str->Option Value) (P:Addr):Prop where
  ex:∃ c,fd.code=.ref c /\ PySem.W.CodeHd base c P
  blt:base.BuiltinsAt mg P
structure Z1O (X:Cx) (P:Addr) (lpos:Pos) (q:Str):Prop where
  ex:∃ c,X.env.code=.ref c /\ PySem.W.CodeHd X.base c P
  blt:X.base.BuiltinsAt X.mg P
  tab:TabIn X.H₀ P (lpos,q)
  qual:X.env.qual ++ "<lambda>" = q
theorem LamIn.at {fd:FuncData}{X:Cx}{P:Addr}{lpos:Pos}{q:Str}(L:LamIn fd X.base X.mg P) (hc:X.env.code=fd.code) (hT:TabIn X.H₀ P (lpos,q)) (hq:X.env.qual ++ "<lambda>" = q):Z1O X P lpos q :=
  ⟨let ⟨c,e,h⟩:=L.ex;⟨c,hc.trans e,h⟩,L.blt,hT,hq⟩
section
variable {X:Cx}{m m' m1 m2:Bool}{rs rs' rs1 rs2:List Nat}{e e1 e2:Expr}{es:List Expr}{fa fb:En->Option D}{fs:En->Option (List D)}{pos p lpos:Pos}{k:Nat}{x q:Str}{params:Arguments}{body:Expr}{scope:Scope}{ns:List Str}
theorem Z1k {pins:List (Addr × Obj)}{σ:L2.St}{H:Hp}{s:Shared}{a c':Addr}{pm ctv:Value}{oc:Obj}{cl:List (Str × Addr)}{dvs:List V}{cap:List Nat}(I:Inv X pins σ H s) (hfn:∀ n,X.fn n=true) (hcl1:∀ n c,cl.lookup n=some c->X.env.cells.lookup n=some c) (hcl2:∀ n,(n,NameKind.free) ∈ scope.names->∃ c,cl.lookup n=some c)
    (hns:∀ n ∈ ns,scope.names.lookup n=some .free) (hnc:∀ n ∈ ns,X.env.scope.names.lookup n=some .cell) (hcl:dvs.length=ns.length) (hcap:∀ (i:Nat) n,ns[i]? = some n->∃ j,cap[i]? = some j /\ X.N[j]? = some n) (hv:∀ (i j:Nat),cap[i]? = some j->∃ v,dvs[i]? = some v /\ σ[j]? = some (some v))
    (hfa:s.heap.get? a=some (PySem.W.kla_obj "<lambda>" q params body scope cl pm c' ctv)) (hHa:H a=none) (hna:a ∉ frs X.stack) (hcd:H c'=some (.frz oc (.cod q))) :
    FnSt q params body scope ns a dvs s H (frs X.stack) cl pm c' ctv oc:=by
  refine⟨hfa,hHa,hna,hcd,fun y z c h1 h2=>I.ok.inj y z c (hcl1 _ _ h1) (hcl1 _ _ h2),hcl2,fun y c e=>⟨I.cell y c (hcl1 _ _ e),I.freeC y c (hcl1 _ _ e),fun hb=>?_⟩,hcl,fun i n dv h1 h2=>?_⟩
  . rcases List.mem_cons.mp (I.stkSub c hb) with z | z
    . exact I.cne y c (hcl1 _ _ e) z
    . obtain⟨_,o,ho,_⟩:=I.ok.funs.mem z
      exact absurd (Nat.lt_of_lt_of_le (Heap.lt_size ho) (I.ok.cab y c (hfn y) (hcl1 _ _ e))) (Nat.lt_irrefl _)
  . obtain⟨j,hj,hN⟩:=hcap i n h1
    obtain⟨v,hv1,hv2⟩:=hv i j hj
    rw [h2] at hv1;cases hv1
    have hn:=List.mem_of_getElem? h1
    obtain⟨m,hm,hl⟩:=I.loc
    obtain⟨u,ru,lk⟩:=hl j n dv hN hv2 (.inr (.inl (hnc n hn)))
    obtain⟨c,hc⟩:=hcl2 n (PySem.mem_of_lookup (hns n hn))
    rcases lk with ⟨hk,_⟩ | ⟨_,c2,hc2,hi⟩
    . have hk:X.env.scope.names.lookup n=some .local:=hk
      rw [hnc n hn] at hk;cases hk
    . have:=hcl1 n c hc
      rw [hc2] at this;cases this
      exact⟨c,u,hc,hi,ru⟩
theorem zG {mm:Addr->List V->List D->Option D}{P:Addr}(c:wB X.prog X.w X.K X.mg X.base x k 3 (St q params body scope ns) mm) (T:Z1O X P lpos q) (hr:Room k X.A) (ha:QE X m1 rs1 e1 fa) (hb:QE X m2 rs2 e2 fb) (cap:List Nat)
    (hfn:∀ n,X.fn n=true) (hdef:defaultsOf params X.env=([],[])) (hfr:∀ y ∈ scope.names,y.2=NameKind.free->y.1 ∈ ns)
    (hns:∀ n ∈ ns,scope.names.lookup n=some .free) (hnc:∀ n ∈ ns,X.env.scope.names.lookup n=some .cell) (hcl:cap.length=ns.length) (hcap:∀ (i:Nat) n,ns[i]? = some n->∃ j,cap[i]? = some j /\ X.N[j]? = some n) (hg:Gl X x:=by rfl) (hdb:(x == ("__debug__" : Str))=false:=by decide)
    (he1:starEach [e1,e2,.Lambda params body scope lpos] X.env=(false,eval e1 X.env) :: starEach [e2,.Lambda params body scope lpos] X.env:=by rfl) (he2:starEach [e2,.Lambda params body scope lpos] X.env=(false,eval e2 X.env) :: starEach [.Lambda params body scope lpos] X.env:=by rfl)
    (he3:starEach [.Lambda params body scope lpos] X.env=(false,eval (.Lambda params body scope lpos) X.env) :: starEach [] X.env:=by rfl) (hpl:(backTo pos (starEach [e2,.Lambda params body scope lpos] X.env)).any (·.1)=false:=by rfl) :
    QE X true [] (.Call (.Name x p) [e1,e2,.Lambda params body scope lpos] [] pos) (Z04 cap fa fb (oW mm)):=by
  obtain⟨fA,fd,ps,G,hm,hk,hbd,hps⟩:=c.ex
  obtain⟨cc,hcc,hCH⟩:=T.ex
  intro pins s σ H Q I ⟨env,Fp,d,ok,e,q⟩
  unfold Z04 at e
  split at e
  . rename_i d1 d2 ds h1 h2 h3
    refine wpAny_Call_Name_kw (vH I hg hm ?_ hdb)
    refine PySem.W.callWith_K (h₀:=X.base) I.ok.mod.kin hk ?_ he1 hpl
    rw [he1]
    show wpAny _ _ (spliced ((false,eval e1 X.env) :: backTo pos (starEach [e2,.Lambda params body scope lpos] X.env))) _ _ s
    refine Calls.spliced_cons (thn (ha pins s σ H (fun v1 H1=>∃ f1,Same H H1 /\ Rep X.K m1 H1 d1 v1 f1) I ⟨env,Fp,d1,ok,h1,fun v1 H1 f1 s1 r1 _=>⟨f1,s1,r1⟩⟩) fun u1 s1 ⟨v1,H1,I1,rv1,f1,sm1,r1⟩=>?_)
    rw [he2]
    show wpAny _ _ (spliced ((false,eval e2 X.env) :: backTo pos (starEach [.Lambda params body scope lpos] X.env))) _ _ s1
    refine Calls.spliced_cons (thn (hb pins s1 σ H1 (fun v2 H2=>∃ f2,Same H1 H2 /\ Rep X.K m2 H2 d2 v2 f2) I1 ⟨env,Fp,d2,ok.same sm1,h2,fun v2 H2 f2 s2 r2 _=>⟨f2,s2,r2⟩⟩) fun u2 s2 ⟨v2,H2,I2,rv2,f2,sm2,r2⟩=>?_)
    rw [he3]
    show wpAny _ _ (spliced ((false,eval (.Lambda params body scope lpos) X.env) :: backTo pos (starEach [] X.env))) _ _ s2
    obtain⟨cl,ecl,hcl1,hcl2⟩:=nJ (scope:=scope) (env:=X.env) fun n hn=>I2.ok.has n (.inl (hnc n (hfr _ hn rfl)))
    refine Calls.spliced_cons (Y5 I2 hcc hCH T.blt (T.tab.un I2.base) T.qual hdef ecl fun a c' pm ctv oc s3 H3 I3 sm3 hHa hge hfa hcd=>?_)
    refine Calls.spliced_nil ⟨I3.kIn,?_⟩
    have hna:a ∉ frs X.stack:=fun z=>by
      obtain⟨_,o,ho,_⟩:=I2.stack.mem z
      exact absurd (Nat.lt_of_lt_of_le (Heap.lt_size ho) hge) (Nat.lt_irrefl _)
    obtain⟨dvs,fp,hrs,hlen,hvs⟩:=yF ok h3
    have FS:=Z1k I3 hfn hcl1 hcl2 hns hnc (hlen.trans hcl) hcap hvs hfa hHa hna hcd
    have smA:Same H H3:=(sm1.trans sm2).trans sm3
    have rr:Vals [v1,v2,.ref a] [u1,u2,.ref a]:=.cons rv1 (.cons rv2 (.cons rfl .nil))
    refine wpAny_call (codeAny_mono (G.run X.A X.stack s3 H3 ⟨[u1,u2,.ref a],[]⟩ [u1,u2,.ref a] [v1,v2,.ref a] Q a dvs hr I3.env0 ⟨cl,pm,c',ctv,oc,FS⟩ ?_ rr ?_) fun r s' hq=>?_)
    . have:=hbd s3 [u1,u2,.ref a] I3.kIn (by simp [hps])
      rw [List.append_nil] at this
      exact this
    . refine⟨[d1,d2,.fn a dvs ds],d,f1 ++ (f2 ++ (fp ++ [])),rfl,?_,O2 e a dvs,fun v H' fp' s4 r4 h4 nd=>q v H' fp' (smA.trans s4) r4 ⟨fun b hb=>.inl (smA.free (h4 b hb)),fun _=>⟨nd,fun b hb=>smA.free (h4 b hb)⟩⟩⟩
      simp only [Reps,Rep]
      exact⟨v1,_,f1,_,rfl,rfl,Rep.weak _ _ _ (r1.same (sm2.trans sm3)),v2,_,f2,_,rfl,rfl,Rep.weak _ _ _ (r2.same sm3),_,[],fp,[],rfl,rfl,⟨rfl,hrs.same smA⟩,rfl,rfl⟩
    . cases r with
      | error e=>exact False.elim hq
      | ok fl =>
        cases fl with
        | ret u=>exact I3.after hq
        | next=>exact False.elim hq
        | brk=>exact False.elim hq
        | cont=>exact False.elim hq
  . cases e
noncomputable def spT (K:Frag) (P:Addr) (pq:Pos × Str) (n:Nat) (f:List D->Option D):Sp:=fun vs H Q E=>TabIn H P pq /\ spD K n f vs H Q E
theorem FunD.okT {P:Program}{w:World}{K:Frag}{mg:Str->Option Value}{base:Heap}{x qual:Str}{st:Stmt}{f P₀:Addr}{pq:Pos × Str}{fd:FuncData}{N ps:List Str}{k n L:Nat}{g:En->Res}(F:FunD K x qual st f fd) (S:aT N ps (aE st)) (hn:ps.length=n) (hL:N.length=L)
    (hb:∀ (cdv:Value) (A:Around) (outer:List Env) (s:Shared) (H:Hp) (E:XK),Room k (A.deeper (envOfC qual (aE st) s.heap.objs.size f cdv))->cdv=fd.code->TabIn H P₀ pq->QSs (pG CX0 P w K mg base N qual (aE st) f cdv A outer s H E).nox (aI st) g) :
    FnOk P w K mg base CX0 (k + 1) f fd ps (spT K P₀ pq n (runF L g)):=by
  subst hn hL
  obtain⟨oc,od,dV,kV,doc,pm,an,cdv,ct,osl,rfl,lk,hcd⟩:=F.ex
  refine J1 lk hcd S (fun vs H Q E h=>uQ h.2) fun A outer s H vs Q E hr hsp=>?_
  obtain⟨hT,ds,d,fp,h1,h2,h3,q⟩:=hsp
  have hq:=hb cdv A outer s H E hr rfl hT
  refine⟨_,PSs.nox hq,H,enStart N.length ds,nA h2,?_⟩
  unfold runF at h3
  cases hg:g (enStart N.length ds) with
  | ret d' =>
    rw [hg] at h3
    cases h3
    exact fun v H' fp' s r fr nd=>q v H' fp' s r fr nd
  | next env' =>
    rw [hg] at h3
    cases h3
    exact fun σ' H' I'=>q .non H' [] I'.same oR (fun b hb=>(by cases hb)) List.nodup_nil
  | brk _=>rw [hg] at h3;cases h3
  | cont _=>rw [hg] at h3;cases h3
  | bad=>rw [hg] at h3;cases h3
structure wA (P:Program) (w:World) (K:Frag) (mg:Str->Option Value) (base:Heap) (x:Str) (P₀:Addr) (pq:Pos × Str) (k n:Nat) (F':List D->Option D):Prop where
  ex:∃ fA fd ps,FnOk P w K mg base CX0 k fA fd ps (spT K P₀ pq n F') /\ mg x=some (.ref fA) /\ keepIn K (.ref fA)=true /\ Binds K fd ps []
theorem Z0O {n:Nat}{P₀:Addr}{pq:Pos × Str}{F':List D->Option D}(c:wA X.prog X.w X.K X.mg X.base x P₀ pq k n F') (hT:TabIn X.H₀ P₀ pq) (hr:Room k X.A) (hna:NArgs n fs) (ha:QA X m1 rs1 (e :: es) fs) (hg:Gl X x:=by rfl)
    (hdb:(x == ("__debug__" : Str))=false:=by decide) (he:starEach (e :: es) X.env=(false,eval e X.env) :: starEach es X.env:=by rfl) (hpl:(backTo pos (starEach es X.env)).any (·.1)=false:=by rfl) :
    QE X true [] (.Call (.Name x p) (e :: es) [] pos) (aP F' [] fs):=by
  obtain⟨fA,fd,ps,G,hm,hk,hb⟩:=c.ex
  intro pins s σ H Q I ⟨env,F,d,ok,e,q⟩
  refine L2.pe_call (dvs:=[]) (ds:=[]) G hr hg hm hk hb .nil W5 ha hdb he hpl pins s σ H Q I ?_
  unfold aP at e
  cases h1:fs env with
  | none=>simp only [h1] at e;cases e
  | some xs =>
    simp only [h1,Option.bind_some] at e
    refine⟨env,F,xs,ok,h1,fun vs H' fp s2 r c=>⟨TabIn.same (hT.un I.base) s2,xs ++ [],d,fp,by rw [List.append_nil];exact hna.len env xs h1,?_,e,fun v H2 fp' s3 r2 h2 nd=>q v H2 fp' (s2.trans s3) r2 ⟨fun b hb=>.inl (s2.free (h2 b hb)),fun _=>⟨nd,fun b hb=>s2.free (h2 b hb)⟩⟩⟩⟩
    rw [List.append_nil,List.append_nil]
    exact Reps.weak _ _ _ r
theorem walkT {l:PySem.W.OpenLaw}{n k:Nat}{q:Program}{loose:List Str}{XP:(Str->Option Value)->Heap->Prop}{YP:World->Heap->Prop}{d:DefRec}{K:Params->Frag}{x:Str}{c₀ P₀:Addr}{pq:Pos × Str}
    (hn:l.most=some n) (hn2:n <= sizeLine) (hdf:d.params.defaults=[]) (hr:Room k callerA)
    (hY:∀ (w:World) (h:Heap),YP w h->(K w.params).In h) (hC:∀ (w:World) (h:Heap),YP w h->h.TableAt c₀ P₀ #[]) (hKP:∀ w:World,(K w.params).lookup P₀=none)
    (F:∀ (w:World) (mg:Str->Option Value) (fa:Addr) (h:Heap),(K w.params).In h->h.Ns mainGlobals mg->mg d.name=some (.ref fa) ->
      ∃ (fd:FuncData) (m:List D->Option D),(∀ (s:Shared) (u:Value),BindsTo s fd ⟨[u],[]⟩ [(x,u)]) /\ (∀ ns:List Int,ns.length <= n->(∀ i ∈ ns,Builtin.Int.intBits i <= 1048576)->m [.lst (ns.map D.int)]=some (.bl true)) /\
        ∀ base:Heap,(K w.params).In base->base.Ns mainGlobals mg->base.BuiltinsAt mg P₀->FnOk l.prog w (K w.params) mg base CX0 k fa fd [x] (spT (K w.params) P₀ pq 1 m)) :
    PySem.W.WalkO q loose XP YP l.row.toRowW d [] (fun f vs=>PySem.call f vs):=by
  refine Att.attach_callB hn hdf fun w s₀ s₁ mg mb fa o pm cd doc a vs ns hbits G Y ho hd hcd hmg hobj hints hlen hg=>?_
  have KX:=hY w _ Y
  obtain⟨fd,m,hb,hm,hF⟩:=F w mg fa _ KX G.T.g hmg
  obtain⟨bm,ob,b1,b2,b3,b4,b5,b6⟩:=G.T.bmain
  have hT:=hC w _ Y
  have hBm:s₁.heap.BuiltinsAt mg P₀:=by
    refine⟨bm,ob,b1,b2,fun z=>?_,fun z=>?_,b3,b4,b5,b6⟩
    . obtain⟨o',es,ep,e,hd',_⟩:=G.T.g
      rw [z,e] at b3;cases b3;rw [hd'] at b6;cases b6
    . rw [z,hT.2] at b3;cases b3;cases b4
  refine O1 (pos:=pq.1) (q₀:=pq.2) KX G.T.g G.T.b G.T.builtins G.T.nolimit hg hobj hints (Nat.le_trans hlen hn2) hr hT (hKP w) hBm hF hb (fun H hP hS=>?_) fun H e s' z=>z
  have hrep:∃ fp,Reps (K w.params) false H [.lst (ns.map D.int)] [.ref a] fp:=by
    rcases T3 hS with z | z
    . refine⟨[a],?_⟩
      simp only [Reps,Rep]
      exact⟨.ref a,[],[a],[],rfl,rfl,⟨a,_,[],rfl,kL ns,.inl ⟨rfl,z⟩⟩,rfl,rfl⟩
    . refine⟨[],?_⟩
      simp only [Reps,Rep]
      exact⟨.ref a,[],[],[],rfl,rfl,⟨a,_,[],rfl,kL ns,.inr ⟨trivial,rfl,z⟩⟩,rfl,rfl⟩
  obtain⟨fp,hrep⟩:=hrep
  exact⟨⟨_,hP,rfl⟩,_,_,fp,rfl,hrep,hm ns hlen hbits,fun v H' fp' sm r _ _=>⟨eU r,sm _ _ hP⟩⟩
end
end PD
namespace G
open PySem PySem.Spec PyProof.Rows L2 PD
theorem tS:∀ (n a b:Nat),a <= n->a ||| b=(a ^^^ b) + (a &&& b)
  | n,0,b,_=>by simp
  | 0,a + 1,b,h=>by omega
  | n + 1,a + 1,b,h=>by
    have ih:=tS n ((a + 1) / 2) (b / 2) (by omega)
    have o:=congrArg (· = true) (Nat.testBit_or (a + 1) b 0)
    have x:=congrArg (· = true) (Nat.testBit_xor (a + 1) b 0)
    have d:=congrArg (· = true) (Nat.testBit_and (a + 1) b 0)
    simp only [Nat.testBit_zero,Bool.or_eq_true,Bool.and_eq_true,decide_eq_true_eq] at o x d
    rw [<- Nat.or_div_two,<- Nat.xor_div_two,<- Nat.and_div_two] at ih
    generalize a + 1=A at *
    generalize A ||| b=O at *
    generalize A ^^^ b=X at *
    generalize A &&& b=N at *
    have ho:O % 2=1 ↔ A % 2=1 \/ b % 2=1:=by rw [o]
    have hd:N % 2=1 ↔ A % 2=1 /\ b % 2=1:=by rw [d]
    have hx:X % 2=1 ↔ ¬ (A % 2=1 ↔ b % 2=1):=by
      rw [x]
      by_cases h1:A % 2=1 <;> by_cases h2:b % 2=1 <;> simp [h1,h2]
    by_cases h1:A % 2=1 <;> by_cases h2:b % 2=1 <;> simp only [h1,h2,or_self,or_true,true_or,and_self,and_true,true_and,and_false,false_and,iff_self,not_true,iff_true,iff_false,or_false,false_or,not_false_iff] at ho hd hx <;> omega
theorem yK (a:Nat):¬ (0:Int) <= Builtin.bitNot (a:Int):=by unfold Builtin.bitNot;omega
theorem Z0j (a:Int):Builtin.bitNot (Builtin.bitNot a)=a:=by unfold Builtin.bitNot;omega
theorem yL (a b:Nat):Builtin.bitAnd (a:Int) (b:Int)=((a &&& b:Nat):Int):=by
  simp [Builtin.bitAnd]
theorem J7 (a b:Nat):Builtin.bitOr (a:Int) (b:Int)=((a ||| b:Nat):Int):=by
  unfold Builtin.bitOr Builtin.bitAnd
  rw [decide_eq_false (yK a),decide_eq_false (yK b)]
  simp only [Z0j,Int.toNat_natCast]
theorem Z0i (a b:Nat):Builtin.bitXor (a:Int) (b:Int)=((a ^^^ b:Nat):Int):=by
  unfold Builtin.bitXor
  rw [J7,yL,tS a a b (Nat.le_refl _)]
  omega
noncomputable def tabN:Nat->(Nat->Bool)->Nat
  | 0,_=>0
  | n + 1,b=>tabN n b + (if b n then 2 ^ n else 0)
theorem gK:∀ (n:Nat) (b:Nat->Bool),tabN n b < 2 ^ n
  | 0,b=>by simp [tabN]
  | n + 1,b=>by
    have:=gK n b
    simp only [tabN,Nat.pow_succ]
    split <;> omega
theorem cK:∀ (n:Nat) (b:Nat->Bool) (g:Nat),(tabN n b).testBit g=(decide (g < n) && b g)
  | 0,b,g=>by simp [tabN]
  | n + 1,b,g=>by
    have ih:=cK n b g
    have hlt:=gK n b
    simp only [tabN]
    cases hb:b n with
    | true =>
      simp only [if_true]
      rw [Nat.add_comm]
      by_cases h1:g < n
      . rw [Nat.testBit_two_pow_add_gt h1,ih];simp [h1,Nat.lt_succ_of_lt h1]
      . by_cases h2:g=n
        . subst h2
          rw [Nat.testBit_two_pow_add_eq,ih];simp [hb]
        . rw [Nat.testBit_lt_two_pow]
          . simp [show ¬ g < n + 1 by omega]
          . have:2 ^ (n + 1) <= 2 ^ g:=Nat.pow_le_pow_right (by decide) (by omega)
            rw [Nat.pow_succ] at this;omega
    | false =>
      simp only [Bool.false_eq_true,if_false,Nat.add_zero]
      rw [ih]
      by_cases h2:g=n
      . subst h2;simp [hb]
      . by_cases h1:g < n
        . simp [h1,Nat.lt_succ_of_lt h1]
        . simp [h1,show ¬ g < n + 1 by omega]
theorem yY {n:Nat}{a b:Nat->Bool}(h:∀ g,g < n->a g=b g):tabN n a=tabN n b:=by
  apply Nat.eq_of_testBit_eq
  intro g
  rw [cK,cK]
  by_cases hg:g < n
  . simp [hg,h g hg]
  . simp [hg]
theorem kU {n x:Nat}{b:Nat->Bool}(h1:x < 2 ^ n) (h:∀ g,g < n->x.testBit g=b g):x=tabN n b:=by
  apply Nat.eq_of_testBit_eq
  intro g
  rw [cK]
  by_cases hg:g < n
  . simp [hg,h g hg]
  . have:x < 2 ^ g:=Nat.lt_of_lt_of_le h1 (Nat.pow_le_pow_right (by decide) (by omega))
    rw [Nat.testBit_lt_two_pow this];simp [hg]
noncomputable def tab (n:Nat) (b:Nat->Bool):Int:=(tabN n b:Int)
theorem cJ {n:Nat}{a b:Nat->Bool}(h:∀ g,g < n->a g=b g):tab n a=tab n b:=by unfold tab;rw [yY h]
theorem qI (n:Nat) (a b:Nat->Bool):Builtin.bitAnd (tab n a) (tab n b)=tab n (fun g=>a g && b g):=by
  unfold tab
  rw [yL]
  congr 1
  refine kU (Nat.lt_of_le_of_lt Nat.and_le_left (gK n a)) fun g hg=>?_
  rw [Nat.testBit_and,cK,cK];simp [hg]
theorem uO (n:Nat) (a b:Nat->Bool):Builtin.bitOr (tab n a) (tab n b)=tab n (fun g=>a g || b g):=by
  unfold tab
  rw [J7]
  congr 1
  refine kU (Nat.or_lt_two_pow (gK n a) (gK n b)) fun g hg=>?_
  rw [Nat.testBit_or,cK,cK];simp [hg]
theorem qH (n:Nat) (a b:Nat->Bool):Builtin.bitXor (tab n a) (tab n b)=tab n (fun g=>a g ^^ b g):=by
  unfold tab
  rw [Z0i]
  congr 1
  refine kU (Nat.xor_lt_two_pow (gK n a) (gK n b)) fun g hg=>?_
  rw [Nat.testBit_xor,cK,cK];simp [hg]
theorem K6 (n:Nat):tabN n (fun _=>true)=2 ^ n - 1:=by
  symm
  refine kU (by have:=Nat.two_pow_pos n;omega) fun g hg=>?_
  rw [Nat.testBit_two_pow_sub_one];simp [hg]
theorem kH:∀ (n:Nat),tabN n (fun _=>false)=0
  | 0=>rfl
  | n + 1=>by simp [tabN,kH n]
noncomputable def aS (n:Nat):Int:=2 ^ n - 1
theorem lU (n:Nat):tab n (fun _=>true)=aS n:=by
  unfold tab aS
  rw [K6]
  have:=Nat.two_pow_pos n
  rw [Int.ofNat_sub (by omega)]
  simp
theorem C5 (n:Nat) {b:Int}(h:b=0 \/ b=1):aS n * b=tab n (fun _=>decide (b=1)):=by
  rcases h with z | z
  . subst z
    have:(fun _:Nat=>decide ((0:Int)=1))=fun _=>false:=by funext;decide
    rw [this,Int.mul_zero];unfold tab;rw [kH];rfl
  . subst z
    have:(fun _:Nat=>decide ((1:Int)=1))=fun _=>true:=by funext;decide
    rw [this,Int.mul_one,lU]
theorem uP (n:Nat) (b:Nat->Bool):Builtin.bitXor (aS n) (tab n b)=tab n (fun g=>!b g):=by
  rw [<- lU,qH]
  exact cJ fun g _=>by simp
noncomputable def inT:Nat->List Int
  | 0=>[]
  | k + 1=>(inT k).map (fun t=>Builtin.bitOr t (t * 2 ^ (2 ^ k))) ++ [aS (2 ^ k) * 2 ^ (2 ^ k)]
theorem gW:∀ n,(inT n).length=n
  | 0=>rfl
  | n + 1=>by simp [inT,gW n]
theorem C4 (n:Nat) (b:Nat->Bool):tab n b * 2 ^ n=tab (n + n) (fun g=>decide (n <= g) && b (g - n)):=by
  unfold tab
  have:((tabN n b:Nat):Int) * 2 ^ n=((tabN n b * 2 ^ n:Nat):Int):=by simp
  rw [this]
  congr 1
  refine kU ?_ fun g hg=>?_
  . rw [Nat.pow_add];exact Nat.mul_lt_mul_of_pos_right (gK n b) (Nat.two_pow_pos n)
  . rw [<- Nat.shiftLeft_eq,Nat.testBit_shiftLeft,cK]
    by_cases h:n <= g
    . simp [h,show g - n < n by omega]
    . simp [h]
theorem T0 (n m:Nat) (b:Nat->Bool):tab n b=tab (n + m) (fun g=>decide (g < n) && b g):=by
  unfold tab
  congr 1
  refine kU ?_ fun g hg=>cK n b g
  exact Nat.lt_of_lt_of_le (gK n b) (Nat.pow_le_pow_right (by decide) (by omega))
theorem qL:∀ (n i:Nat),i < n->(inT n)[i]? = some (tab (2 ^ n) fun g=>decide (g / 2 ^ i % 2=1))
  | 0,i,h=>by omega
  | n + 1,i,h=>by
    have e2:2 ^ (n + 1)=2 ^ n + 2 ^ n:=by rw [Nat.pow_succ];omega
    simp only [inT]
    by_cases hi:i < n
    . rw [List.getElem?_append_left (by simp [gW,hi]),List.getElem?_map,qL n i hi]
      simp only [Option.map_some]
      congr 1
      rw [C4]
      rw [T0 (2 ^ n) (2 ^ n),uO,e2]
      refine cJ fun g hg=>?_
      by_cases h1:g < 2 ^ n
      . simp [h1,show ¬ 2 ^ n <= g by omega]
      . have h2:2 ^ n <= g:=by omega
        simp only [h1,h2,decide_false,decide_true,Bool.false_and,Bool.false_or,Bool.true_and]
        have h3:2 ^ n=2 ^ i * (2 * 2 ^ (n - i - 1)):=by rw [<- Nat.pow_succ',<- Nat.pow_add];congr 1;omega
        have h4:g / 2 ^ i=(g - 2 ^ n) / 2 ^ i + 2 * 2 ^ (n - i - 1):=by
          have:g=(g - 2 ^ n) + 2 ^ i * (2 * 2 ^ (n - i - 1)):=by omega
          conv=>lhs;rw [this]
          rw [Nat.add_mul_div_left _ _ (Nat.two_pow_pos i)]
        rw [h4]
        congr 2
        omega
    . have hin:i=n:=by omega
      subst hin
      rw [List.getElem?_append_right (by simp [gW]),List.length_map,gW,Nat.sub_self]
      simp only [List.getElem?_cons_zero]
      congr 1
      rw [<- lU,C4,e2]
      refine cJ fun g hg=>?_
      by_cases h1:2 ^ i <= g
      . have:g / 2 ^ i=1:=by
          rw [Nat.div_eq_iff (Nat.two_pow_pos i)];omega
        simp [h1,this]
      . have:g / 2 ^ i=0:=Nat.div_eq_of_lt (by omega)
        simp [h1,this]
theorem Z3B {x y:Int}(h:Bt x) (k:Bt y):(decide (x=1) && decide (y=1))=decide (Builtin.bitAnd x y=1):=by rcases h with z | z <;> rcases k with w | w <;> (subst z;subst w;decide)
theorem Z4d {x y:Int}(h:Bt x) (k:Bt y):(decide (x=1) || decide (y=1))=decide (Builtin.bitOr x y=1):=by rcases h with z | z <;> rcases k with w | w <;> (subst z;subst w;decide)
theorem Z3z {x y:Int}(h:Bt x) (k:Bt y):(decide (x=1) ^^ decide (y=1))=decide (Builtin.bitXor x y=1):=by rcases h with z | z <;> rcases k with w | w <;> (subst z;subst w;decide)
theorem Z3A {x:Int}(h:Bt x):(!decide (x=1))=decide (Builtin.bitXor 1 x=1):=by rcases h with z | z <;> (subst z;decide)
noncomputable def tb (n:Nat) (b:Nat->Int):Int:=tab n fun g=>decide (b g=1)
theorem kG {n:Nat}{a b:Nat->Int}(h:∀ g,g < n->a g=b g):tb n a=tb n b:=cJ fun g hg=>by rw [h g hg]
theorem yW (n:Nat) {b:Int}(h:b=0 \/ b=1):aS n * b=tb n fun _=>1 * b:=by
  rw [C5 n h]
  exact cJ fun g _=>by rw [Int.one_mul]
theorem Z1U (n:Nat) {a b:Nat->Int}(ha:∀ g,Bt (a g)) (hb:∀ g,Bt (b g)):Builtin.bitAnd (tb n a) (tb n b)=tb n fun g=>Builtin.bitAnd (a g) (b g):=by
  unfold tb;rw [qI]
  exact cJ fun g _=>Z3B (ha g) (hb g)
theorem Z2K (n:Nat) {a b:Nat->Int}(ha:∀ g,Bt (a g)) (hb:∀ g,Bt (b g)):Builtin.bitOr (tb n a) (tb n b)=tb n fun g=>Builtin.bitOr (a g) (b g):=by
  unfold tb;rw [uO]
  exact cJ fun g _=>Z4d (ha g) (hb g)
theorem Z1S (n:Nat) {a b:Nat->Int}(ha:∀ g,Bt (a g)) (hb:∀ g,Bt (b g)):Builtin.bitXor (tb n a) (tb n b)=tb n fun g=>Builtin.bitXor (a g) (b g):=by
  unfold tb;rw [qH]
  exact cJ fun g _=>Z3z (ha g) (hb g)
theorem Z1T (n:Nat) {a:Nat->Int}(ha:∀ g,Bt (a g)):Builtin.bitXor (aS n) (tb n a)=tb n fun g=>Builtin.bitXor 1 (a g):=by
  unfold tb;rw [uP]
  exact cJ fun g _=>Z3A (ha g)
theorem tJ {n:Nat}{v:Int}{b:Nat->Int}{w:Int}{f:Flt}(h:v=tb n b) (hf:∀ w b,f=.wire w b->b=0 \/ b=1):bK v w (aS n) f=tb n fun g=>bK (b g) w 1 f:=by
  cases f with
  | none=>exact h
  | leg _ _ _=>exact h
  | wire w' b' =>
    unfold bK
    by_cases hw:w'=w
    . simp only [hw,if_true]
      exact yW n (hf _ _ rfl)
    . simp only [hw,if_false]
      exact h
theorem Z0u {n:Nat}{r:Row}{w:Int}{V:List Int}{B:Nat->List Int}{f:Flt}(h:∀ a ∈ r.ws,nth V a=tb n fun g=>nth (B g) a) (hb:∀ w l b,f=.leg w l b->b=0 \/ b=1) :
    ∀ j:Nat,j < r.ws.length->nth (legs r w V (aS n) f) j=tb n fun g=>nth (legs r w (B g) 1 f) j:=by
  have base:∀ j:Nat,j < r.ws.length->nth (r.ws.map (nth V)) j=tb n fun g=>nth (r.ws.map (nth (B g))) j:=by
    intro j hj
    have e1:∀ L:List Int,nth (r.ws.map (nth L)) j=nth L (r.ws[j]):=fun L=>iB (i:=j) (by simp [hj]) rfl
    rw [e1 V,h _ (List.getElem_mem hj)]
    exact kG fun g _=>(e1 (B g)).symm
  intro j hj
  cases f with
  | none=>exact base j hj
  | wire _ _=>exact base j hj
  | leg w' l b =>
    unfold legs
    by_cases hw:w'=w
    . simp only [hw,if_true]
      by_cases hl:l.toNat=j
      . have e2:∀ (L:List Int) (x:Int),L.length=r.ws.length->nth (L.set l.toNat x) j=x:=fun L x hL=>iB (i:=j) (by rw [hl,List.getElem?_set_self (by omega)]) rfl
        rw [e2 _ _ (by simp)]
        rw [yW n (hb _ _ _ rfl)]
        exact kG fun g _=>(e2 _ _ (by simp)).symm
      . have e3:∀ (L:List Int) (x:Int),nth (L.set l.toNat x) j=nth L j:=fun L x=>by
          unfold nth
          rw [Int.toNat_natCast,List.getD,List.getD,List.getElem?_set_ne hl]
        rw [e3,base j hj]
        exact kG fun g _=>(e3 _ _).symm
    . simp only [hw,if_false]
      exact base j hj
theorem Z0v {n:Nat}{r:Row}{L:List Int}{M:Nat->List Int}{k:Int}(hr:RowOk k r) (h:∀ j:Nat,j < r.ws.length->nth L j=tb n fun g=>nth (M g) j) (hM:∀ g,∀ x ∈ M g,Bt x):iA r L (aS n)=tb n fun g=>iA r (M g) 1:=by
  have bt:∀ j g,Bt (nth (M g) j):=fun j g=>lC (hM g) j
  cases r with
  | fix b=>exact yW n hr
  | not a =>
    have h0:=h 0 (by simp [Row.ws])
    show Builtin.bitXor (aS n) (nth L 0)=_
    rw [show nth L 0=nth L ((0:Nat):Int) from rfl,h0]
    exact Z1T n fun g=>bt _ g
  | bin k a b =>
    have h0:nth L 0=tb n fun g=>nth (M g) 0:=h 0 (by simp [Row.ws])
    have h1:nth L 1=tb n fun g=>nth (M g) 1:=h 1 (by simp [Row.ws])
    cases k with
    | and =>
      show Builtin.bitAnd (nth L 0) (nth L 1)=_
      rw [h0,h1]
      exact Z1U n (fun g=>bt _ g) fun g=>bt _ g
    | or =>
      show Builtin.bitOr (nth L 0) (nth L 1)=_
      rw [h0,h1]
      exact Z2K n (fun g=>bt _ g) fun g=>bt _ g
    | xor =>
      show Builtin.bitXor (nth L 0) (nth L 1)=_
      rw [h0,h1]
      exact Z1S n (fun g=>bt _ g) fun g=>bt _ g
noncomputable def bA (ins:Nat) (rows:List Row) (f:Flt):List Int:=iD (aS (2 ^ ins)) f (inT ins) rows
theorem iE (ins:Nat) (rows:List Row) (f:Flt):(bA ins rows f).length=ins + rows.length:=by
  unfold bA;rw [mL,gW]
theorem xF {l:List Int}{i:Nat}{a:Int}(h0:0 <= a) (h1:a < i):nth (l.take i) a=nth l a:=by
  unfold nth
  rw [List.getD,List.getD,List.getElem?_take_of_lt (by omega)]
theorem wI {ins:Nat}{rows:List Row}{f:Flt}(hr:RowsOk ins rows) (hf:FltOk ins rows f):∀ (i:Nat),i < ins + rows.length->nth (bA ins rows f) i=tb (2 ^ ins) fun g=>nth (sJ ins rows g f) i:=by
  intro i
  induction i using Nat.strongRecOn with
  | _ i ih =>
    intro hi
    by_cases h1:i < ins
    . have e1:(bA ins rows f)[i]? = some (bK (tab (2 ^ ins) fun g=>decide (g / 2 ^ i % 2=1)) i (aS (2 ^ ins)) f):=qT (qL ins i h1)
      rw [iB e1 rfl]
      have e2:(tab (2 ^ ins) fun g=>decide (g / 2 ^ i % 2=1))=tb (2 ^ ins) fun g=>((g:Int) / 2 ^ i % 2):=by
        refine cJ fun g _=>?_
        have e3:((g:Int) / 2 ^ i % 2)=((g / 2 ^ i % 2:Nat):Int):=by simp
        have e4:(g / 2 ^ i % 2=1) ↔ ((g:Int) / 2 ^ i % 2=1):=by rw [e3];omega
        exact decide_eq_decide.mpr e4
      rw [tJ e2 hf.w]
      exact kG fun g _=>(iB (Z0g h1) rfl).symm
    . obtain⟨k,rfl⟩:∃ k,i=ins + k:=⟨i - ins,by omega⟩
      have hk:k < rows.length:=by omega
      have hr1:=List.getElem?_eq_getElem hk
      generalize rows[k]=r at hr1
      have hrow:=hr k r hr1
      have e1:=oE (o:=aS (2 ^ ins)) (f:=f) (ss:=inT ins) hr1
      rw [gW] at e1
      rw [show nth (bA ins rows f) ((ins + k:Nat):Int)=_ from iB e1 rfl]
      have hb:∀ g:Nat,nth (sJ ins rows g f) ((ins + k:Nat):Int)=_:=fun g=>iB (R4 (g:=g) (f:=f) hr1) rfl
      have e2:iA r (legs r ((ins + k:Nat):Int) ((iD (aS (2 ^ ins)) f (inT ins) rows).take (ins + k)) (aS (2 ^ ins)) f) (aS (2 ^ ins))=tb (2 ^ ins) fun g=>iA r (legs r ((ins + k:Nat):Int) ((sJ ins rows g f).take (ins + k)) 1 f) 1:=by
        refine Z0v hrow (Z0u (fun a ha=>?_) hf.l) fun g=>E2 (fun x hx=>Z0h hr hf x (List.mem_of_mem_take hx)) hf.l
        have ha2:=hrow.ws a ha
        obtain⟨a',rfl⟩:∃ a':Nat,a=(a':Int):=⟨a.toNat,by omega⟩
        have:=ih a' (by omega) (by omega)
        rw [xF (by omega) (by omega)]
        show nth (bA ins rows f) _=_
        rw [this]
        exact kG fun g _=>(xF (by omega) (by omega)).symm
      rw [tJ e2 hf.w]
      exact kG fun g _=>(hb g).symm
theorem qX:∀ (n:Nat) (b:Nat->Bool),tabN n b + tabN n (fun g=>!b g) + 1=2 ^ n
  | 0,b=>by simp [tabN]
  | n + 1,b=>by
    have ih:=qX n b
    simp only [tabN,Nat.pow_succ]
    by_cases hb:b n=true
    . simp only [hb,Bool.not_true,Bool.false_eq_true,if_true,if_false];omega
    . simp only [hb,Bool.not_false,Bool.false_eq_true,if_true,if_false];omega
theorem Z0w (n:Nat) (b:Nat->Bool):aS n - tab n b=tab n (fun g=>!b g):=by
  have h:=qX n b
  have h2:((2 ^ n:Nat):Int)=2 ^ n:=by simp
  unfold aS tab
  rw [<- h2]
  omega
noncomputable def IsT (n:Nat) (x:Int):Prop:=∃ b,x=tab n b
theorem Z1b {n:Nat}{x:Int}(h:IsT n x):Builtin.bitXor (aS n) x=aS n - x:=by obtain⟨b,rfl⟩:=h;rw [uP,Z0w]
theorem IsT.not {n:Nat}{x:Int}(h:IsT n x):IsT n (Builtin.bitXor (aS n) x):=by obtain⟨b,rfl⟩:=h;exact⟨_,uP n b⟩
theorem IsT.and {n:Nat}{x y:Int}(h:IsT n x) (k:IsT n y):IsT n (Builtin.bitAnd x y):=by obtain⟨b,rfl⟩:=h;obtain⟨c,rfl⟩:=k;exact⟨_,qI n b c⟩
theorem IsT.or {n:Nat}{x y:Int}(h:IsT n x) (k:IsT n y):IsT n (Builtin.bitOr x y):=by obtain⟨b,rfl⟩:=h;obtain⟨c,rfl⟩:=k;exact⟨_,uO n b c⟩
theorem IsT.xor {n:Nat}{x y:Int}(h:IsT n x) (k:IsT n y):IsT n (Builtin.bitXor x y):=by obtain⟨b,rfl⟩:=h;obtain⟨c,rfl⟩:=k;exact⟨_,qH n b c⟩
theorem rT (n:Nat):IsT n 0:=⟨fun _=>false,by unfold tab;rw [kH];rfl⟩
theorem IsT.nonneg {n:Nat}{x:Int}(h:IsT n x):0 <= x:=by obtain⟨b,rfl⟩:=h;exact Int.natCast_nonneg _
theorem Z1c {n:Nat}{b:Int}(h:b=0 \/ b=1):IsT n (aS n * b):=⟨_,C5 n h⟩
theorem Z15 (l:List Int) (a:Int):nth l a=nth l ((a.toNat:Nat):Int):=by unfold nth;rw [Int.toNat_natCast]
theorem lT {ins:Nat}{rows:List Row}{f:Flt}(hr:RowsOk ins rows) (hf:FltOk ins rows f) (a:Int):IsT (2 ^ ins) (nth (bA ins rows f) a):=by
  by_cases h:a.toNat < ins + rows.length
  . rw [Z15,wI hr hf _ h];exact⟨_,rfl⟩
  . have:nth (bA ins rows f) a=0:=by
      unfold nth
      rw [List.getD,List.getElem?_eq_none (by rw [iE];omega)]
      rfl
    rw [this];exact rT _
theorem yX {ins:Nat}{rows:List Row}{f:Flt}{i:Nat}(h:i < ins):(bA ins rows f)[i]? = some (bK (tab (2 ^ ins) fun g=>decide (g / 2 ^ i % 2=1)) i (aS (2 ^ ins)) f):=qT (qL ins i h)
theorem wH {ins:Nat}{rows:List Row}{f:Flt}{k:Nat}{r:Row}(h:rows[k]? = some r) :
    (bA ins rows f)[ins + k]? = some (bK (iA r (legs r ((ins + k:Nat):Int) ((bA ins rows f).take (ins + k)) (aS (2 ^ ins)) f) (aS (2 ^ ins))) ((ins + k:Nat):Int) (aS (2 ^ ins)) f):=by
  have:=oE (o:=aS (2 ^ ins)) (f:=f) (ss:=inT ins) h
  rw [gW] at this
  exact this
theorem C7 (p:Nat->Bool):∀ n,(((List.range n).filter p).map fun (g:Nat)=>((1:Int) * 2 ^ (g:Int).toNat)).sum=tab n p
  | 0=>rfl
  | n + 1=>by
    rw [List.range_succ,List.filter_append,List.map_append,List.sum_append,C7 p n]
    unfold tab
    simp only [tabN]
    cases hp:p n <;> simp [hp]
noncomputable def oV (r:Row) (w l:Int) (vs:List Int) (o:Int) (f:Flt):Int:=match f with
  | .leg w' l' b=>if w'=w /\ l'=l then o * b else nth vs (nth r.ws l)
  | _=>nth vs (nth r.ws l)
theorem oU {r:Row}{w l o:Int}{vs:List Int}{f:Flt}(hl:l=0 /\ 0 < r.ws.length \/ l=1 /\ 1 < r.ws.length) (hf:∀ w' l' b,f=.leg w' l' b->w'=w->0 <= l' /\ l' < r.ws.length):nth (legs r w vs o f) l=oV r w l vs o f:=by
  have hm:∀ j:Nat,j < r.ws.length->(r.ws.map (nth vs))[j]? = some (nth vs (nth r.ws j)):=fun j hj=>by
    rw [List.getElem?_map,List.getElem?_eq_getElem hj]
    simp [nth,List.getD,hj]
  have hbase:nth (r.ws.map (nth vs)) l=nth vs (nth r.ws l):=by
    rcases hl with ⟨rfl,h⟩ | ⟨rfl,h⟩
    . exact iB (hm 0 h) rfl
    . exact iB (hm 1 h) rfl
  cases f with
  | none=>exact hbase
  | wire _ _=>exact hbase
  | leg w' l' b =>
    unfold legs oV
    by_cases h:w'=w
    . obtain⟨l0,l1⟩:=hf w' l' b rfl h
      simp only [h,if_true,true_and]
      by_cases h2:l'=l
      . subst h2
        simp only [if_true]
        refine iB (i:=l'.toNat) ?_ (by omega)
        rw [List.getElem?_set_self (by rw [List.length_map];omega)]
      . simp only [h2,if_false]
        have hne:l'.toNat ≠ l.toNat:=by omega
        rw [<- hbase]
        unfold nth
        rw [List.getD,List.getD,List.getElem?_set_ne hne]
    . simp only [h,if_false,false_and]
      exact hbase
noncomputable def kdT (k:Kd) (x y:Int):Int:=match k with | .and=>Builtin.bitAnd x y | .or=>Builtin.bitOr x y | .xor=>Builtin.bitXor x y
theorem Y3 {n:Nat}{r:Row}{w l:Int}{vs:List Int}{f:Flt}(hv:∀ a,IsT n (nth vs a)) (hb:∀ w l b,f=.leg w l b->b=0 \/ b=1):IsT n (oV r w l vs (aS n) f):=by
  unfold oV
  split
  . split
    . exact Z1c (hb _ _ _ rfl)
    . exact hv _
  . exact hv _
noncomputable def nO (A B outs:List Int):Int:=outs.foldl (fun acc a=>Builtin.bitOr acc (Builtin.bitXor (nth A a) (nth B a))) 0
theorem tI {n:Nat}{A B:List Int}(hA:∀ a,IsT n (nth A a)) (hB:∀ a,IsT n (nth B a)):∀ (outs:List Int) (x:Int),IsT n x->IsT n (outs.foldl (fun acc a=>Builtin.bitOr acc (Builtin.bitXor (nth A a) (nth B a))) x)
  | [],x,h=>h
  | a :: outs,x,h=>by rw [List.foldl_cons];exact tI hA hB outs _ (h.or ((hA a).xor (hB a)))
theorem K4 {n:Nat}{A B:List Int}(hA:∀ a,IsT n (nth A a)) (hB:∀ a,IsT n (nth B a)) (outs:List Int):IsT n (nO A B outs):=tI hA hB outs 0 (rT n)
theorem qW {A B outs:List Int}{i:Nat}{a:Int}(h:outs[i]? = some a):nO A B (outs.take (i + 1))=Builtin.bitOr (nO A B (outs.take i)) (Builtin.bitXor (nth A a) (nth B a)):=by
  unfold nO
  rw [cB h,List.foldl_append]
  rfl
noncomputable def bF (ins:Nat) (rows:List Row) (w:Int):List Int:=if w < (ins:Int) then [] else match rows[(w - (ins:Int)).toNat]? with | some r=>r.ws | none=>[]
theorem mP {ins:Nat}{rows:List Row}{w:Int}(h:w < (ins:Int)):bF ins rows w=[]:=if_pos h
theorem lF {ins:Nat}{rows:List Row}{w:Int}{r:Row}(h:(ins:Int) <= w) (e:rows[(w - (ins:Int)).toNat]? = some r):bF ins rows w=r.ws:=by
  unfold bF;rw [if_neg (by omega),e]
theorem iZ {ins:Nat}{rows:List Row}(hr:RowsOk ins rows) {w b:Int}(hb:b ∈ bF ins rows w):0 <= b /\ b < w:=by
  by_cases h:w < (ins:Int)
  . rw [mP h] at hb;cases hb
  . cases e:rows[(w - (ins:Int)).toNat]? with
    | none=>unfold bF at hb;rw [if_neg h,e] at hb;cases hb
    | some r =>
      rw [lF (by omega) e] at hb
      have:=(hr _ r e).ws b hb
      omega
theorem jH {ins:Nat}{rows:List Row}{w:Int}:(bF ins rows w).length <= 2:=by
  unfold bF
  split
  . simp
  . split
    . rename_i r _
      cases r <;> simp [Row.ws]
    . simp
noncomputable def jM (ks:List Int) (k:Int):List Int:=if k ∈ ks then ks else ks ++ [k]
theorem X9 {ks:List Int}{k a:Int}:a ∈ jM ks k ↔ a ∈ ks \/ a=k:=by
  unfold jM
  split
  . rename_i h
    exact⟨.inl,fun z=>z.elim id fun z=>z ▸ h⟩
  . simp
theorem zS {ks:List Int}{k:Int}(h:ks.Nodup) (hk:k ∉ ks):(ks ++ [k]).Nodup:=by
  refine List.nodup_append.mpr ⟨h,by simp,fun a ha b hb z=>?_⟩
  have:b=k:=by simpa using hb
  subst this;subst z
  exact hk ha
theorem zT {ks:List Int}{k:Int}(h:ks.Nodup):(jM ks k).Nodup:=by
  unfold jM
  split
  . exact h
  . rename_i hk;exact zS h hk
noncomputable def cI (ks xs:List Int):List Int:=xs.foldl jM ks
theorem mem_addAll:∀ {xs ks:List Int}{a:Int},a ∈ cI ks xs ↔ a ∈ ks \/ a ∈ xs
  | [],ks,a=>by simp [cI]
  | x :: xs,ks,a=>by
    have ih:=mem_addAll (xs:=xs) (ks:=jM ks x) (a:=a)
    unfold cI at ih ⊢
    rw [List.foldl_cons,ih,X9,List.mem_cons,or_assoc]
theorem gT:∀ {xs ks:List Int},ks.Nodup->(cI ks xs).Nodup
  | [],ks,h=>h
  | x :: xs,ks,h=>by
    have ih:=gT (xs:=xs) (ks:=jM ks x) (zT h)
    exact ih
theorem jY {xs ks:List Int}{i:Nat}{a:Int}(h:xs[i]? = some a):cI ks (xs.take (i + 1))=jM (cI ks (xs.take i)) a:=by
  unfold cI
  rw [cB h,List.foldl_append]
  rfl
theorem W0 {ks:List Int}{k:Int}:∃ t,jM ks k=ks ++ t:=by
  unfold jM
  split
  . exact⟨[],(List.append_nil _).symm⟩
  . exact⟨[k],rfl⟩
theorem sK:∀ {xs ks:List Int},∃ t,cI ks xs=ks ++ t
  | [],ks=>⟨[],(List.append_nil _).symm⟩
  | x :: xs,ks=>by
    obtain⟨t,e⟩:=sK (xs:=xs) (ks:=jM ks x)
    obtain⟨t',e'⟩:=W0 (ks:=ks) (k:=x)
    refine⟨t' ++ t,?_⟩
    rw [<- List.append_assoc,<- e',<- e]
    rfl
theorem jT:∀ (N:Nat) (l:List Int),l.Nodup->(∀ a ∈ l,0 <= a /\ a < (N:Int))->l.length <= N
  | 0,[],_,_=>Nat.le_refl _
  | 0,a :: l,_,h=>by have:=h a List.mem_cons_self;omega
  | N + 1,l,nd,h=>by
    have ih:=jT N (l.erase (N:Int)) (nd.erase _) (fun a ha=>by
      have h1:=(nd.mem_erase_iff).mp ha
      have:=h a h1.2
      have h2:a ≠ (N:Int):=h1.1
      omega)
    rw [List.length_erase] at ih
    split at ih <;> omega
structure NeedL (ins:Nat) (rows:List Row) (outs L:List Int):Prop where
  nd:L.Nodup
  out:∀ a ∈ outs,a ∈ L
  cl:∀ a ∈ L,∀ b ∈ bF ins rows a,b ∈ L
  least:∀ S:Int->Prop,(∀ a ∈ outs,S a)->(∀ a,S a->∀ b ∈ bF ins rows a,S b)->∀ a ∈ L,S a
theorem NeedL.perm {ins:Nat}{rows:List Row}{outs L M:List Int}(h:NeedL ins rows outs L) (k:NeedL ins rows outs M):L.Perm M :=
  (List.perm_ext_iff_of_nodup h.nd k.nd).mpr fun a=>⟨fun z=>h.least (· ∈ M) k.out k.cl a z,fun z=>k.least (· ∈ L) h.out h.cl a z⟩
theorem NeedL.sort {ins:Nat}{rows:List Row}{outs L M:List Int}(h:NeedL ins rows outs L) (k:NeedL ins rows outs M):lQ L=lQ M :=
  gR ((hJ _).trans ((h.perm k).trans (hJ _).symm)) (iF _) (iF _)
theorem NeedL.bound {ins:Nat}{rows:List Row}{outs L:List Int}(h:NeedL ins rows outs L) (hr:RowsOk ins rows) (ho:∀ a ∈ outs,0 <= a /\ a < ((ins + rows.length:Nat):Int)):∀ a ∈ L,0 <= a /\ a < ((ins + rows.length:Nat):Int) :=
  h.least _ ho fun a ha b hb=>by have:=iZ hr hb;omega
theorem NeedL.len {ins:Nat}{rows:List Row}{outs L:List Int}(h:NeedL ins rows outs L) (hr:RowsOk ins rows) (ho:∀ a ∈ outs,0 <= a /\ a < ((ins + rows.length:Nat):Int)):L.length <= ins + rows.length:=jT _ _ h.nd (h.bound hr ho)
noncomputable def fX (ins:Nat) (rows:List Row) (outs:List Int):Nat->List Int
  | 0=>cI [] outs
  | j + 1=>if (((ins + rows.length:Nat):Int) - 1 - (j:Int)) ∈ fX ins rows outs j then cI (fX ins rows outs j) (bF ins rows (((ins + rows.length:Nat):Int) - 1 - (j:Int))) else fX ins rows outs j
structure Z3F (ins:Nat) (rows:List Row) (outs:List Int) (j:Nat) (L:List Int):Prop where
  nd:L.Nodup
  out:∀ a ∈ outs,a ∈ L
  cl:∀ a ∈ L,((ins + rows.length:Nat):Int) - (j:Int) <= a->∀ b ∈ bF ins rows a,b ∈ L
  least:∀ S:Int->Prop,(∀ a ∈ outs,S a)->(∀ a,S a->∀ b ∈ bF ins rows a,S b)->∀ a ∈ L,S a
theorem E1 {ins:Nat}{rows:List Row}{outs:List Int}(hr:RowsOk ins rows) (ho:∀ a ∈ outs,0 <= a /\ a < ((ins + rows.length:Nat):Int)):∀ j,Z3F ins rows outs j (fX ins rows outs j)
  | 0=>by
    refine⟨gT List.nodup_nil,fun a ha=>mem_addAll.mpr (.inr ha),fun a ha h=>?_,fun S h1 _ a ha=>?_⟩
    . have:=ho a ((mem_addAll.mp ha).elim (fun z=>(by cases z)) id)
      omega
    . exact h1 a ((mem_addAll.mp ha).elim (fun z=>(by cases z)) id)
  | j + 1=>by
    have ih:=E1 hr ho j
    unfold fX
    by_cases hw:(((ins + rows.length:Nat):Int) - 1 - (j:Int)) ∈ fX ins rows outs j
    . rw [if_pos hw]
      generalize hW:((ins + rows.length:Nat):Int) - 1 - (j:Int)=W at *
      refine⟨gT ih.nd,fun a ha=>mem_addAll.mpr (.inl (ih.out a ha)),fun a ha h b hb=>?_,fun S h1 h2 a ha=>?_⟩
      . rcases mem_addAll.mp ha with z | z
        . by_cases haw:a=W
          . subst haw;exact mem_addAll.mpr (.inr hb)
          . exact mem_addAll.mpr (.inl (ih.cl a z (by omega) b hb))
        . have:=iZ hr z
          omega
      . rcases mem_addAll.mp ha with z | z
        . exact ih.least S h1 h2 a z
        . exact h2 W (ih.least S h1 h2 W hw) a z
    . rw [if_neg hw]
      refine⟨ih.nd,ih.out,fun a ha h b hb=>?_,ih.least⟩
      by_cases haw:a=((ins + rows.length:Nat):Int) - 1 - (j:Int)
      . rw [haw] at ha;exact absurd ha hw
      . exact ih.cl a ha (by omega) b hb
theorem rN {ins:Nat}{rows:List Row}{outs:List Int}(hr:RowsOk ins rows) (ho:∀ a ∈ outs,0 <= a /\ a < ((ins + rows.length:Nat):Int)):NeedL ins rows outs (fX ins rows outs rows.length):=by
  have h:=E1 hr ho rows.length
  refine⟨h.nd,h.out,fun a ha b hb=>?_,h.least⟩
  by_cases hi:a < (ins:Int)
  . rw [mP hi] at hb;cases hb
  . exact h.cl a ha (by omega) b hb
noncomputable def lN (ins:Nat) (rows:List Row) (outs:List Int):List Int:=lQ (fX ins rows outs rows.length)
theorem mem_needV {ins:Nat}{rows:List Row}{outs:List Int}{a:Int}:a ∈ lN ins rows outs ↔ a ∈ fX ins rows outs rows.length:=(hJ _).mem_iff
theorem pN {ins:Nat}{rows:List Row}{outs:List Int}(hr:RowsOk ins rows) (ho:∀ a ∈ outs,0 <= a /\ a < ((ins + rows.length:Nat):Int)):∀ a ∈ lN ins rows outs,0 <= a /\ a < ((ins + rows.length:Nat):Int) :=
  fun a ha=>(rN hr ho).bound hr ho a (mem_needV.mp ha)
theorem oP {ins:Nat}{rows:List Row}{outs:List Int}(hr:RowsOk ins rows) (ho:∀ a ∈ outs,0 <= a /\ a < ((ins + rows.length:Nat):Int)):(lN ins rows outs).length <= ins + rows.length:=by
  have:=(hJ (fX ins rows outs rows.length)).length_eq
  unfold lN
  rw [this]
  exact (rN hr ho).len hr ho
noncomputable def cP (ins:Nat) (rows:List Row) (w:Int):List Int:=if w < (ins:Int) then [0,1] else match rows[(w - (ins:Int)).toNat]? with | some (.fix b)=>[1 - b] | _=>[0,1]
theorem gD {ins:Nat}{rows:List Row}{w:Int}:(cP ins rows w).length <= 2:=by
  unfold cP
  split
  . simp
  . split <;> simp
theorem uJ {ins:Nat}{rows:List Row}(hr:RowsOk ins rows) {w b:Int}(hb:b ∈ cP ins rows w):b=0 \/ b=1:=by
  unfold cP at hb
  split at hb
  . simpa using hb
  . split at hb
    . rename_i c e
      have:=hr _ _ e
      have h2:b=1 - c:=by simpa using hb
      rcases (show c=0 \/ c=1 from this) with z | z <;> omega
    . simpa using hb
noncomputable def bO (ins:Nat) (rows:List Row) (w:Int) (k:Nat):List Int->List Flt
  | []=>[]
  | a :: r=>(cP ins rows a).map (fun b=>Flt.leg w (k:Int) b) ++ bO ins rows w (k + 1) r
noncomputable def bY (ins:Nat) (rows:List Row) (w:Int):List Flt:=(cP ins rows w).map (fun b=>Flt.wire w b) ++ bO ins rows w 0 (bF ins rows w)
noncomputable def dW (ins:Nat) (rows:List Row) (outs:List Int):List Flt:=(lN ins rows outs).flatMap (bY ins rows)
theorem mC {ins:Nat}{rows:List Row}{w:Int}:∀ (l:List Int) (k:Nat) (a:Int),bO ins rows w k (l ++ [a])=bO ins rows w k l ++ (cP ins rows a).map (fun b=>Flt.leg w ((k + l.length:Nat):Int) b)
  | [],k,a=>by simp [bO]
  | x :: l,k,a=>by
    simp only [List.cons_append,bO]
    rw [mC l (k + 1) a,List.append_assoc,List.length_cons,show k + 1 + l.length=k + (l.length + 1) by omega]
theorem iC {ins:Nat}{rows:List Row}{w:Int}:∀ (l:List Int) (k:Nat),(bO ins rows w k l).length <= 2 * l.length
  | [],k=>by simp [bO]
  | x :: l,k=>by
    have h1:=iC (ins:=ins) (rows:=rows) (w:=w) l (k + 1)
    have h2:=gD (ins:=ins) (rows:=rows) (w:=x)
    simp only [bO,List.length_append,List.length_map,List.length_cons]
    omega
theorem qR {ins:Nat}{rows:List Row}{w:Int}:(bY ins rows w).length <= 6:=by
  have h1:=iC (ins:=ins) (rows:=rows) (w:=w) (bF ins rows w) 0
  have h2:=gD (ins:=ins) (rows:=rows) (w:=w)
  have h3:=jH (ins:=ins) (rows:=rows) (w:=w)
  unfold bY
  rw [List.length_append,List.length_map]
  omega
theorem nY {ins:Nat}{rows:List Row}:∀ (l:List Int),(l.flatMap (bY ins rows)).length <= 6 * l.length
  | []=>by simp
  | a :: l=>by
    have h1:=nY (ins:=ins) (rows:=rows) l
    have h2:=qR (ins:=ins) (rows:=rows) (w:=a)
    rw [List.flatMap_cons,List.length_append,List.length_cons]
    omega
theorem mH {ins:Nat}{rows:List Row}{outs:List Int}(hr:RowsOk ins rows) (ho:∀ a ∈ outs,0 <= a /\ a < ((ins + rows.length:Nat):Int)):(dW ins rows outs).length <= 6 * (ins + rows.length):=by
  have h1:=nY (ins:=ins) (rows:=rows) (lN ins rows outs)
  have h2:=oP hr ho
  unfold dW
  omega
theorem mZ {ins:Nat}{rows:List Row}{w:Int}{f:Flt}:∀ {l:List Int}{k:Nat},f ∈ bO ins rows w k l->∃ j a b,l[j]? = some a /\ b ∈ cP ins rows a /\ f=.leg w ((k + j:Nat):Int) b
  | [],k,h=>by cases h
  | x :: l,k,h=>by
    simp only [bO] at h
    rcases List.mem_append.mp h with z | z
    . obtain⟨b,hb,rfl⟩:=List.mem_map.mp z
      exact⟨0,x,b,rfl,hb,rfl⟩
    . obtain⟨j,a,b,h1,h2,h3⟩:=mZ z
      exact⟨j + 1,a,b,by simpa using h1,h2,by rw [h3];congr 2;omega⟩
theorem nG {ins:Nat}{rows:List Row}{outs:List Int}(hr:RowsOk ins rows):∀ f ∈ dW ins rows outs,FltOk ins rows f /\ f ≠ .none:=by
  intro f hf
  obtain⟨w,_,hw⟩:=List.mem_flatMap.mp hf
  unfold bY at hw
  rcases List.mem_append.mp hw with z | z
  . obtain⟨b,hb,rfl⟩:=List.mem_map.mp z
    have h1:=uJ hr hb
    exact⟨⟨fun w b e=>(by cases e;exact h1),fun w l b e=>(by cases e),fun w l b k r e=>(by cases e)⟩,fun z=>(by cases z)⟩
  . obtain⟨j,a,b,h1,h2,rfl⟩:=mZ z
    have h3:=uJ hr h2
    refine⟨⟨fun w b e=>(by cases e),fun w l b e=>(by cases e;exact h3),fun w' l' b' k r e er ew=>?_⟩,fun z=>(by cases z)⟩
    cases e
    have hl:bF ins rows w=r.ws:=lF (by omega) (by rw [ew,show (((ins + k:Nat):Int) - (ins:Int)).toNat=k by omega];exact er)
    rw [hl] at h1
    have:=(List.getElem?_eq_some_iff.mp h1).1
    omega
noncomputable def dKT (ks:List Int):D:=.dk (ks.map Sum.inl) (ks.map fun _=>.bl true)
theorem inl_mem {ks:List Int}{k:Int}:(Sum.inl k:Key) ∈ ks.map Sum.inl ↔ k ∈ ks:=by
  constructor
  . intro h
    obtain⟨a,ha,e⟩:=List.mem_map.mp h
    cases e;exact ha
  . intro h;exact List.mem_map.mpr ⟨k,h,rfl⟩
theorem nS {ks:List Int}{k:Int}:rP (Sum.inl k:Key) (ks.map Sum.inl)=decide (k ∈ ks):=by
  by_cases h:k ∈ ks
  . rw [memK_iff.mpr (inl_mem.mpr h),decide_eq_true h]
  . rw [decide_eq_false h,Bool.eq_false_iff]
    exact fun z=>h (inl_mem.mp (memK_iff.mp z))
theorem V7 {ks:List Int}{k:Int}:zH (ks.map Sum.inl) (Sum.inl k:Key)=(jM ks k).map Sum.inl:=by
  unfold zH jM
  by_cases h:k ∈ ks
  . rw [if_pos (inl_mem.mpr h),if_pos h]
  . rw [if_neg (fun z=>h (inl_mem.mp z)),if_neg h,List.map_append];rfl
theorem nL {k:Int}:∀ (ks:List Int),List.zipWith (fun (k':Key) (y:D)=>if k'=(Sum.inl k:Key) then D.bl true else y) (ks.map Sum.inl) (ks.map fun _=>D.bl true)=ks.map fun _=>D.bl true
  | []=>rfl
  | a :: ks=>by simp only [List.map_cons,List.zipWith_cons_cons,nL ks];split <;> rfl
theorem M7 {ks:List Int}{k:Int}:rG (ks.map Sum.inl) (ks.map fun _=>D.bl true) (Sum.inl k:Key) (.bl true)=(jM ks k).map fun _=>D.bl true:=by
  unfold rG jM
  by_cases h:k ∈ ks
  . rw [if_pos (inl_mem.mpr h),if_pos h];exact nL ks
  . rw [if_neg (fun z=>h (inl_mem.mp z)),if_neg h,List.map_append];rfl
theorem B4 (ks:List Int):flats (ks.map fun _=>D.bl true)=true:=jA fun d hd=>by
  obtain⟨_,_,rfl⟩:=List.mem_map.mp hd;rfl
theorem rD {i:Nat}{fk fv:En->Option D}{env:En}{ks:List Int}{k:Int}(hv:fv env=some (.bl true)) (hi:env[i]? = some (some (true,dKT ks))) (hk:fk env=some (.int k)) (hl:ks.length < 1000) :
    rE i fk fv env=.next (env.set i (some (true,dKT (jM ks k)))):=by
  unfold rE dKT at *
  rw [hv,hi,hk]
  simp only [keyOf,B4,PD.flat,List.length_map,hl,and_self,if_true,V7,M7]
theorem xM {k:Int}:∀ (ks:List Int),inD (.int k) (ks.map D.int)=some (decide (k ∈ ks))
  | []=>rfl
  | a :: ks=>by
    simp only [List.map_cons,inD,eqN_int,xM ks]
    by_cases h:a=k
    . subst h;simp
    . have h':¬ k=a:=fun z=>h z.symm
      simp [h,h']
theorem Z7 {k:Int}{ks:List Int}:inF (.int k) (LI ks)=some (decide (k ∈ ks)):=xM ks
theorem wS {rs:List Nat}{src:En->Option (List D)}{t:D->En->Option En}{g:En->Res}{env:En}{ds:List D}(hs:src env=some ds) (I:Nat->En->Prop) (h0:I 0 (fz rs env))
    (st:∀ i d env,ds[i]? = some d->I i env->∃ env1 env2,t d env=some env1 /\ g env1=.next env2 /\ I (i + 1) env2):∃ env',dZ rs src t g env=.next env' /\ I ds.length env':=by
  obtain⟨env',h1,h2⟩:=P8 I (fun i d e hd hI=>let ⟨e1,e2,a,b,c⟩:=st i d e hd hI;⟨e1,e2,a,.inl b,c⟩) h0
  exact⟨env',M0 hs h1,h2⟩
theorem jK:∀ {xs ks:List Int},(cI ks xs).length <= ks.length + xs.length
  | [],ks=>by simp [cI]
  | x :: xs,ks=>by
    have ih:=jK (xs:=xs) (ks:=jM ks x)
    have h:(jM ks x).length <= ks.length + 1:=by unfold jM;split <;> simp
    have e:cI ks (x :: xs)=cI (jM ks x) xs:=rfl
    rw [e,List.length_cons];omega
theorem tU {ins:Nat}{rows:List Row}{outs:List Int}(hr:RowsOk ins rows) (ho:∀ a ∈ outs,0 <= a /\ a < ((ins + rows.length:Nat):Int)) (j:Nat):(fX ins rows outs j).length <= ins + rows.length :=
  jT _ _ (E1 hr ho j).nd ((E1 hr ho j).least _ ho fun a ha b hb=>by have:=iZ hr hb;omega)
theorem uG {ins:Nat}{rows:List Row}{l:List Int}{i:Nat}{w:Int}(h:l[i]? = some w):(l.take (i + 1)).flatMap (bY ins rows)=(l.take i).flatMap (bY ins rows) ++ bY ins rows w:=by
  rw [cB h,List.flatMap_append];simp
theorem mB {ins:Nat}{rows:List Row}{w:Int}{l:List Int}{i:Nat}{a:Int}(h:l[i]? = some a):bO ins rows w 0 (l.take (i + 1))=bO ins rows w 0 (l.take i) ++ (cP ins rows a).map (fun b=>Flt.leg w (i:Int) b):=by
  have hi:i < l.length:=(List.getElem?_eq_some_iff.mp h).1
  rw [cB h,mC,List.length_take,Nat.zero_add,Nat.min_eq_left (by omega)]
theorem oB {rows:List Row}{k:Nat}{r:Row}(h:rows[k]? = some r) {a:Int}(e:a=(k:Int)):atI (rows.map Row.d) a=some r.d:=by
  subst e
  exact lK (by simp [h])
structure Z4i (ins:Nat) (rows:List Row) (outs:List Int) (j:Nat) (L:List Int):Prop where
  out:∀ a ∈ outs,a ∈ L
  cl:∀ a ∈ L,((ins + rows.length:Nat):Int) - (j:Int) <= a->∀ b ∈ bF ins rows a,b ∈ L
  least:∀ S:Int->Prop,(∀ a ∈ outs,S a)->(∀ a,S a->∀ b ∈ bF ins rows a,S b)->∀ a ∈ L,S a
noncomputable def gP (n:Nat):List Int:=(List.range n).map fun (k:Nat)=>(k:Int)
theorem tab_zero {n:Nat}{b:Nat->Bool}:tab n b=0 ↔ ∀ g,g < n->b g=false:=by
  constructor
  . intro h g hg
    have h1:=cK n b g
    have h2:tabN n b=0:=by unfold tab at h;omega
    rw [h2] at h1
    simpa [hg] using h1.symm
  . intro h
    rw [show tab n b=tab n (fun _=>false) from cJ fun g hg=>h g hg]
    unfold tab;rw [kH];rfl
theorem wC {α:Type}(φ ψ:α->D):∀ (xs:List α),mT (xs.map φ) (xs.map ψ)=xs.map fun x=>.tup [φ x,ψ x]
  | []=>rfl
  | x :: xs=>by simp only [List.map_cons,mT];rw [wC φ ψ xs]
noncomputable def top (i:Nat):Stmt:=PySem.Challenge.pw_stuckwire_k41_thinned_rows.main.body.getD i (.Pass ⟨0,0,0,0⟩)
noncomputable abbrev cU:Stmt:=top 11
noncomputable abbrev dI:Stmt:=top 10
noncomputable abbrev cT:Stmt:=top 9
noncomputable abbrev fQ:Stmt:=top 8
noncomputable abbrev iT:Stmt:=top 7
noncomputable abbrev cV:Stmt:=top 5
noncomputable abbrev cD:Stmt:=top 6
noncomputable abbrev eQ:Stmt:=top 2
noncomputable abbrev fT:Stmt:=top 4
noncomputable abbrev bS:Stmt:=top 3
noncomputable abbrev cS:Stmt:=top 15
noncomputable abbrev gM:Stmt:=top 13
noncomputable abbrev bT:Stmt:=top 16
noncomputable abbrev cW:Stmt:=top 14
noncomputable abbrev dO:Stmt:=top 18
noncomputable abbrev eE:Stmt:=top 17
noncomputable abbrev gL:Stmt:=top 20
noncomputable abbrev dN:Stmt:=top 21
noncomputable abbrev eM:Stmt:=top 22
noncomputable abbrev kY:Stmt:=top 24
noncomputable abbrev dC:Stmt:=top 23
noncomputable abbrev fR:Stmt:=top 26
noncomputable abbrev fS:Stmt:=top 27
noncomputable abbrev iR:Stmt:=top 28
noncomputable abbrev dL:Stmt:=top 29
noncomputable abbrev gN:Stmt:=top 30
noncomputable abbrev eL:Stmt:=top 31
noncomputable abbrev eG:Stmt:=top 32
noncomputable abbrev dJ:Stmt:=top 33
noncomputable abbrev gO:Stmt:=top 34
noncomputable abbrev eI:Stmt:=top 35
noncomputable abbrev dM:Stmt:=top 36
noncomputable abbrev eJ:Stmt:=top 37
noncomputable abbrev iS:Stmt:=top 38
noncomputable abbrev lL:Stmt:=top 39
noncomputable abbrev cE:Stmt:=Z1e (top 1) 0
noncomputable def gG (C:Addr):List D->Option D:=fun ds=>match ds with
  | [i,r,o]=>match (aW (aB 1)) [none,some (false,i),some (false,r),some (false,o)],(dB [] (dP (aB 2)) fTT (fB1 vX (aC (aB 0) aL))) [none,some (false,i),some (false,r),some (false,o)],(fB1 gZ (aC (aB 3) aL)) [none,some (false,i),some (false,r),some (false,o)] with
    | some a,some b,some c=>some (.obj C ["ins","rows","outs"] [a,b,c])
    | _,_,_=>none
  | _=>none
noncomputable def iW (C:Addr):En->Res :=
    (aO (bR 3 (aW (fIx (aB 0) (fC (.int 0)))))
    (aO (rIf (fEq (aB 3) (fC (.str "fix"))) (bU (fI2 IntMulOk (fun i j=>.int (i * j)) (aB 2) (fIx (aB 0) (fC (.int 1))))) bX)
    (aO (rIf (fEq (aB 3) (fC (.str "not"))) (bU (fI0 (fun i j=>.int (Builtin.bitXor i j)) (aB 2) (fIx (aB 1) (fC (.int 0))))) bX)
    (aO (rIf (fEq (aB 3) (fC (.str "and"))) (bU (fI0 (fun i j=>.int (Builtin.bitAnd i j)) (fIx (aB 1) (fC (.int 0))) (fIx (aB 1) (fC (.int 1))))) bX)
    (aO (rIf (fEq (aB 3) (fC (.str "or"))) (bU (fI0 (fun i j=>.int (Builtin.bitOr i j)) (fIx (aB 1) (fC (.int 0))) (fIx (aB 1) (fC (.int 1))))) bX)
    (bU (fI0 (fun i j=>.int (Builtin.bitXor i j)) (fIx (aB 1) (fC (.int 0))) (fIx (aB 1) (fC (.int 1))))))))))
noncomputable def cM (C:Addr):List D->Option D:=runF 4 (iW C)
noncomputable def jX (C:Addr):En->Res :=
    (aO (rIf (fEq (fIx (aB 0) (fC (.int 0))) (fC (.str "fix"))) (bU (jI aL)) bX)
    (bU (fB1 gZ (aC (fSl (aB 0) (fP (fC (.int 1))) lR) aL))))
noncomputable def cH (C:Addr):List D->Option D:=runF 1 (jX C)
noncomputable def gX (C:Addr):En->Res :=
    (aO (bR 5 (dB [2] (dP (aP (cH C) [] (aC (aB 0) aL))) fTT (aW (fIx (aB 1) (aB 0)))))
    (aO (rIf (kC (sX true (aB 4)) (kC (fEq (fIx (aB 4) (fC (.int 0))) (fC (.str "leg"))) (fEq (fIx (aB 4) (fC (.int 1))) (aB 1)))) (wR 5 (fIx (aB 4) (fC (.int 2))) (fI2 IntMulOk (fun i j=>.int (i * j)) (aB 3) (fIx (aB 4) (fC (.int 3))))) bX)
    (lW 5)))
noncomputable def cG (C:Addr):List D->Option D:=runF 6 (gX C)
noncomputable def kR (C:Addr):En->Res :=
    (aO (rIf (kC (sX true (aB 3)) (kC (fEq (fIx (aB 3) (fC (.int 0))) (fC (.str "wire"))) (fEq (fIx (aB 3) (fC (.int 1))) (aB 1)))) (bU (fI2 IntMulOk (fun i j=>.int (i * j)) (aB 2) (fIx (aB 3) (fC (.int 2))))) bX)
    (bU (aW (aB 0))))
noncomputable def dH (C:Addr):List D->Option D:=runF 4 (kR C)
noncomputable def E9 (C:Addr):En->Res :=
    (aO (bR 4 (jI aL))
    (aO (dZ [1] (dP (aB 1)) (gtN 5) (gQ 4 (aP (dH C) [] (aC (aB 5) (aC (fB1 fN (aC (aB 4) aL)) (aC (aB 2) (aC (aB 3) aL)))))))
    (aO (dZ [0] (dP (iO C "rows" (aB 0))) (gtN 6) (aO (bR 7 (fB1 fN (aC (aB 4) aL)))
    (aO (bR 8 (aP (cG C) [] (aC (aB 6) (aC (aB 7) (aC (aB 4) (aC (aB 2) (aC (aB 3) aL)))))))
    (gQ 4 (aP (dH C) [] (aC (aP (cM C) [] (aC (aB 6) (aC (aB 8) (aC (aB 2) aL)))) (aC (aB 7) (aC (aB 2) (aC (aB 3) aL)))))))))
    (lW 4))))
noncomputable def mO (C:Addr):List D->Option D:=runF 9 (E9 C)
noncomputable def nV (C:Addr):En->Res :=
    (bU (fI0 (fun i j=>.int (i - j)) (fI2 dS (fun i j=>.int (i * 2 ^ j.toNat)) (fC (.int 1)) (fI2 dS (fun i j=>.int (i * 2 ^ j.toNat)) (fC (.int 1)) (aB 0))) (fC (.int 1))))
noncomputable def bW (C:Addr):List D->Option D:=runF 1 (nV C)
noncomputable def mF (C:Addr):En->Res :=
    (aO (bR 1 (jI aL))
    (aO (dZ [] (sB1 hG (aC (aB 0) aL)) (gtN 2) (aO (bR 3 (fI2 dS (fun i j=>.int (i * 2 ^ j.toNat)) (fC (.int 1)) (aB 2)))
    (aO (bR 1 (dB [3] (dP (aB 1)) fTT (fI0 (fun i j=>.int (Builtin.bitOr i j)) (aB 0) (fI2 dS (fun i j=>.int (i * 2 ^ j.toNat)) (aB 0) (aB 1)))))
    (gQ 1 (fI2 dS (fun i j=>.int (i * 2 ^ j.toNat)) (aP (bW C) [] (aC (aB 2) aL)) (aB 3))))))
    (lW 1)))
noncomputable def dY (C:Addr):List D->Option D:=runF 4 (mF C)
noncomputable def Z02 (C:Addr):En->Res :=
    (bU (aP (mO C) [] (aC (aB 0) (aC (aP (dY C) [] (aC (iO C "ins" (aB 0)) aL)) (aC (aP (bW C) [] (aC (iO C "ins" (aB 0)) aL)) (aC (aB 1) aL))))))
noncomputable def jF (C:Addr):List D->Option D:=runF 2 (Z02 C)
noncomputable def P7 (C:Addr):En->Res :=
    (bU (dB [1] (dP (iO C "outs" (aB 0))) fTT (aW (fIx (aB 1) (aB 0)))))
noncomputable def iY (C:Addr):List D->Option D:=runF 2 (P7 C)
noncomputable def vL (C:Addr):En->Res :=
    (bU (aP (iY C) [] (aC (aB 0) (aC (aP (jF C) [] (aC (aB 0) (aC (aB 1) aL))) aL))))
noncomputable def cL (C:Addr):List D->Option D:=runF 2 (vL C)
noncomputable def lG (C:Addr):En->Res :=
    (aO (rIf (fBI (fun i j=>decide (i < j)) (aB 1) (iO C "ins" (aB 0))) (bU (jI aL)) bX)
    (bU (aP (cH C) [] (aC (fIx (iO C "rows" (aB 0)) (fI0 (fun i j=>.int (i - j)) (aB 1) (iO C "ins" (aB 0)))) aL))))
noncomputable def bV (C:Addr):List D->Option D:=runF 2 (lG C)
noncomputable def xR (C:Addr):En->Res :=
    (aO (bR 1 (fC (.dk [] [])))
    (aO (dZ [0] (dP (iO C "outs" (aB 0))) (gtN 2) (rE 1 (aB 2) (fC (.bl true))))
    (aO (dZ [] (sB1 yM (aC (fI0 (fun i j=>.int (i - j)) (fI0 (fun i j=>.int (i + j)) (iO C "ins" (aB 0)) (fB1 fN (aC (iO C "rows" (aB 0)) aL))) (fC (.int 1))) (aC (fI0 (fun i j=>.int (i - j)) (iO C "ins" (aB 0)) (fC (.int 1))) (aC (fC (.int (-1))) aL)))) (gtN 3) (rIf (B6 (aB 3) (aB 1)) (dZ [] (dP (aP (bV C) [] (aC (aB 0) (aC (aB 3) aL)))) (gtN 4) (rE 1 (aB 4) (fC (.bl true)))) bX))
    (bU (fB1 vZ (aC (aB 1) aL))))))
noncomputable def kQ (C:Addr):List D->Option D:=runF 5 (xR C)
noncomputable def iL (C:Addr):En->Res :=
    (aO (rIf (kC (fBI (fun i j=>decide (j <= i)) (aB 1) (iO C "ins" (aB 0))) (fEq (fIx (fIx (iO C "rows" (aB 0)) (fI0 (fun i j=>.int (i - j)) (aB 1) (iO C "ins" (aB 0)))) (fC (.int 0))) (fC (.str "fix")))) (bU (jI (aC (fI0 (fun i j=>.int (i - j)) (fC (.int 1)) (fIx (fIx (iO C "rows" (aB 0)) (fI0 (fun i j=>.int (i - j)) (aB 1) (iO C "ins" (aB 0)))) (fC (.int 1)))) aL))) bX)
    (bU (jI (aC (fC (.int 0)) (aC (fC (.int 1)) aL)))))
noncomputable def bB (C:Addr):List D->Option D:=runF 2 (iL C)
noncomputable def nW (C:Addr):En->Res :=
    (aO (bR 1 (jI aL))
    (aO (dZ [] (dP (aP (kQ C) [] (aC (aB 0) aL))) (gtN 2) (aO (dZ [] (dP (aP (bB C) [] (aC (aB 0) (aC (aB 2) aL)))) (gtN 3) (gQ 1 (iM (aC (fC (.str "wire")) (aC (aW (aB 2)) (aC (aW (aB 3)) aL))))))
    (dZ [] (sB1 mK (aC (aP (bV C) [] (aC (aB 0) (aC (aB 2) aL))) aL)) (gtT [4,5]) (dZ [] (dP (aP (bB C) [] (aC (aB 0) (aC (aB 5) aL)))) (gtN 3) (gQ 1 (iM (aC (fC (.str "leg")) (aC (aW (aB 2)) (aC (aW (aB 4)) (aC (aW (aB 3)) aL))))))))))
    (lW 1)))
noncomputable def fW (C:Addr):List D->Option D:=runF 6 (nW C)
noncomputable def pX (C:Addr):En->Res :=
    (aO (bR 2 (fC (.int 0)))
    (aO (dZ [0,1] (sB1 R6 (aC (aB 0) (aC (aB 1) aL))) (gtT [3,4]) (bR 2 (fI0 (fun i j=>.int (Builtin.bitOr i j)) (aB 2) (fI0 (fun i j=>.int (Builtin.bitXor i j)) (aB 3) (aB 4)))))
    (bU (aW (aB 2)))))
noncomputable def gF (C:Addr):List D->Option D:=runF 5 (pX C)
noncomputable def rX (C:Addr):En->Res :=
    (aO (bR 2 (aP (cL C) [.non] (aC (aB 0) aL)))
    (bU (dB [2,0] (dP (aB 1)) fTT (aP (gF C) [] (aC (aB 1) (aC (aP (cL C) [] (aC (aB 2) (aC (aB 0) aL))) aL))))))
noncomputable def hV (C:Addr):List D->Option D:=runF 3 (rX C)
noncomputable def xQ (C:Addr):En->Res :=
    (aO (bR 1 (fC (.dk [] [])))
    (aO (bR 2 (aP (fW C) [] (aC (aB 0) aL)))
    (aO (dZ [2] (sB1 R6 (aC (aB 2) (aC (aP (hV C) [] (aC (aB 0) (aC (aB 2) aL))) aL))) (gtT [3,4]) (rIf (iN (fEq (aB 4) (fC (.int 0)))) (Z0G 1 (aB 4) (aB 3)) bX))
    (lW 1))))
noncomputable def kO (C:Addr):List D->Option D:=runF 5 (xQ C)
noncomputable def xT (C:Addr):En->Res :=
    (bU (dB [0] (sB1 hG (aC (sE (aB 0)) aL)) (fEq (fI0 (fun i j=>.int (Builtin.bitAnd i j)) (fI2 (fun _ j=>0 <= j) (fun i j=>.int (i / 2 ^ j.toNat)) (aB 1) (aB 0)) (fC (.int 1))) (fC (.int 1))) (aW (aB 0))))
noncomputable def eD (C:Addr):List D->Option D:=runF 1 (xT C)
noncomputable def A8 (C:Addr):En->Res :=
    (bU (fB1 Z1w (aC (sD [0] 1 fTT (lI (iN (fEq (fI0 (fun i j=>.int (Builtin.bitAnd i j)) (aB 0) (aB 1)) (fC (.int 0)))))) aL)))
noncomputable def fL (C:Addr):List D->Option D:=runF 2 (A8 C)
noncomputable abbrev l_lam:Expr:=Z3C (Z3C (Z42 ((aI dC).getD 2 (.Pass ⟨0,0,0,0⟩))) 0) 2
noncomputable abbrev q_lam:Str:=("thinned" ++ ".<locals>.") ++ "<lambda>"
noncomputable abbrev Z0l:=St q_lam (Z47 l_lam) (Z48 l_lam) (Z46 l_lam) ["wanted"]
noncomputable def Z01 (C:Addr) (a0:Addr) (dv0:List V):En->Res :=
    (aO (bR 3 (aW (aB 0)))
    (aO (dZ [1] (dP (aB 1)) (gtN 4) (aO (bR 5 (fI0 (fun i j=>.int (Builtin.bitXor i j)) (aB 3) (fI2 dS (fun i j=>.int (i * 2 ^ j.toNat)) (fC (.int 1)) (aB 4))))
    (rIf (fB (fFn 2 a0 dv0 (aB 5) (aP (fL C) [] (aC (aB 0) (aC (aB 1) aL))))) (bR 3 (aW (aB 5))) bX)))
    (bU (aW (aB 3)))))
noncomputable def oS (C:Addr) (a0:Addr) (dv0:List V):List D->Option D:=runF 6 (Z01 C a0 dv0)
noncomputable def uB (C:Addr):En->Res :=
    (aO (bR 1 (aP (kO C) [] (aC (aB 0) aL)))
    (aO (bR 2 (aP (bW C) [] (aC (iO C "ins" (aB 0)) aL)))
    (bU (aP (eD C) [] (aC (Z04 [1] (aB 2) (aP (eD C) [] (aC (aB 2) aL)) (oW (oS C))) aL)))))
noncomputable def kP (C:Addr):List D->Option D:=runF 3 (uB C)
noncomputable def uC (C:Addr):En->Res :=
    (bU (lI (kC (fB (Z05 "int" (aB 0))) (fB (lI (iN (fB (Z05 "bool" (aB 0)))))))))
noncomputable def hX (C:Addr):List D->Option D:=runF 1 (uC C)
noncomputable def pE (C:Addr):En->Res :=
    (aO (rIf (fBI (fun i j=>decide (j <= i)) (aB 0) (fI2 Z1x (fun i j=>.int (i ^ j.toNat)) (fC (.int 10)) (fC (.int 40)))) (bU (fI2 (fun _ j=>0 < j) (fun i j=>.int (i % j)) (fI2 fE (fun i j=>.int (i / j)) (fI0 (fun i j=>.int (i - j)) (aB 0) (fI2 Z1x (fun i j=>.int (i ^ j.toNat)) (fC (.int 10)) (fC (.int 40)))) (fI2 dS (fun i j=>.int (i * 2 ^ j.toNat)) (fC (.int 1)) (fI2 IntMulOk (fun i j=>.int (i * j)) (fC (.int 31)) (fI2 (fun _ j=>0 < j) (fun i j=>.int (i % j)) (aB 1) (fC (.int 60)))))) (fI2 dS (fun i j=>.int (i * 2 ^ j.toNat)) (fC (.int 1)) (fC (.int 31))))) bX)
    (aO (bR 2 (fI2 (fun _ j=>0 < j) (fun i j=>.int (i % j)) (fI2 IntMulOk (fun i j=>.int (i * j)) (fI0 (fun i j=>.int (i + j)) (fI0 (fun i j=>.int (i + j)) (fI0 (fun i j=>.int (i + j)) (fI2 IntMulOk (fun i j=>.int (i * j)) (aB 0) (aB 0)) (fI2 IntMulOk (fun i j=>.int (i * j)) (fC (.int 3)) (aB 0))) (fI2 IntMulOk (fun i j=>.int (i * j)) (fC (.int 7919)) (aB 1))) (fC (.int 1))) (fC (.int 48271))) (fC (.int 2147483629))))
    (bU (fI2 (fun _ j=>0 < j) (fun i j=>.int (i % j)) (fI0 (fun i j=>.int (i + j)) (fI2 IntMulOk (fun i j=>.int (i * j)) (aB 2) (aB 2)) (fC (.int 7))) (fC (.int 2147483587))))))
noncomputable def eT (C:Addr):List D->Option D:=runF 3 (pE C)
noncomputable def E7 (C:Addr):En->Res :=
    (aO (bR 3 (fI2 (fun _ j=>0 < j) (fun i j=>.int (i % j)) (fI2 fE (fun i j=>.int (i / j)) (aB 0) (fC (.int 11))) (aB 1)))
    (aO (bR 4 (fI2 (fun _ j=>0 < j) (fun i j=>.int (i % j)) (fI2 fE (fun i j=>.int (i / j)) (aB 0) (fC (.int 1009))) (aB 1)))
    (aO (rIf (kC (fB (aB 2)) (fEq (fI2 (fun _ j=>0 < j) (fun i j=>.int (i % j)) (fI2 fE (fun i j=>.int (i / j)) (aB 0) (fC (.int 7))) (fC (.int 2))) (fC (.int 1)))) (bR 3 (fI0 (fun i j=>.int (i - j)) (fI0 (fun i j=>.int (i - j)) (aB 1) (fC (.int 1))) (fI2 (fun _ j=>0 < j) (fun i j=>.int (i % j)) (fI2 fE (fun i j=>.int (i / j)) (aB 0) (fC (.int 13))) (fB1 Z1v (aC (aB 1) (aC (fC (.int 3)) aL)))))) bX)
    (aO (bR 5 (fI2 (fun _ j=>0 < j) (fun i j=>.int (i % j)) (aB 0) (fC (.int 11))))
    (aO (rIf (fEq (aB 5) (fC (.int 0))) (bU (iM (aC (fC (.str "fix")) (aC (fI2 (fun _ j=>0 < j) (fun i j=>.int (i % j)) (fI2 fE (fun i j=>.int (i / j)) (aB 0) (fC (.int 5))) (fC (.int 2))) aL)))) bX)
    (aO (rIf (fBI (fun i j=>decide (i < j)) (aB 5) (fC (.int 3))) (bU (iM (aC (fC (.str "not")) (aC (aW (aB 3)) aL)))) bX)
    (bU (iM (aC (aW (fIx (jI (aC (fC (.str "and")) (aC (fC (.str "or")) (aC (fC (.str "xor")) (aC (fC (.str "and")) (aC (fC (.str "or")) aL)))))) (fI2 (fun _ j=>0 < j) (fun i j=>.int (i % j)) (aB 5) (fC (.int 5))))) (aC (aW (aB 3)) (aC (aW (aB 4)) aL)))))))))))
noncomputable def jV (C:Addr):List D->Option D:=runF 6 (E7 C)
noncomputable def pW (C:Addr):En->Res :=
    (aO (bR 4 (jI aL))
    (aO (dZ [] (sB1 mK (aC (fSl (aB 0) lR (fP (aB 2))) aL)) (gtT [5,6]) (aO (bR 7 (aP (eT C) [] (aC (aB 6) (aC (aB 5) aL))))
    (rIf (fEq (fI0 (fun i j=>.int (i + j)) (aB 1) (fB1 fN (aC (aB 4) aL))) (fC (.int 0))) (gQ 4 (iM (aC (fC (.str "fix")) (aC (fI2 (fun _ j=>0 < j) (fun i j=>.int (i % j)) (aB 7) (fC (.int 2))) aL)))) (gQ 4 (aP (jV C) [] (aC (aB 7) (aC (fI0 (fun i j=>.int (i + j)) (aB 1) (fB1 fN (aC (aB 4) aL))) (aC (lI (fEq (fI2 (fun _ j=>0 < j) (fun i j=>.int (i % j)) (aB 6) (fC (.int 2))) (fC (.int 0)))) aL))))))))
    (aO (rIf (fEq (fI0 (fun i j=>.int (i + j)) (aB 1) (fB1 fN (aC (aB 4) aL))) (fC (.int 0))) (gQ 4 (iM (aC (fC (.str "fix")) (aC (fC (.int 1)) aL)))) bX)
    (aO (bR 8 (fI0 (fun i j=>.int (i - j)) (fI0 (fun i j=>.int (i + j)) (aB 1) (fB1 fN (aC (aB 4) aL))) (fC (.int 1))))
    (aO (bR 9 (jI aL))
    (aO (dZ [] (sB1 hG (aC (fI0 (fun i j=>.int (i + j)) (aB 3) (fC (.int 1))) aL)) (gtN 5) (aO (bR 7 (aP (eT C) [] (aC (fI0 (fun i j=>.int (i + j)) (fB1 vY (aC (fSl (aB 0) lR (fP (fC (.int 9)))) aL)) (fC (.int 5))) (aC (aB 5) aL))))
    (gQ 9 (aW (fIx (jI (aC (aW (aB 8)) (aC (fI2 (fun _ j=>0 < j) (fun i j=>.int (i % j)) (fI2 fE (fun i j=>.int (i / j)) (aB 7) (fC (.int 3))) (fI0 (fun i j=>.int (i + j)) (aB 8) (fC (.int 1)))) aL))) (fB1 C1 (aC (lI (fOr (fB (fI0 (fun i j=>.bl (decide (j < i))) (fI2 (fun _ j=>0 < j) (fun i j=>.int (i % j)) (aB 7) (fC (.int 3))) (fC (.int 0)))) (fB (fI0 (fun i j=>.bl (decide (j < i))) (aB 5) (fC (.int 0)))))) aL)))))))
    (wQ 4 9)))))))
noncomputable def fK (C:Addr):List D->Option D:=runF 10 (pW C)
noncomputable def xS (C:Addr):En->Res :=
    (aO (rIf (kC (sX true (aB 4)) (fEq (aB 4) (iM (aC (fC (.str "leg")) (aC (aB 2) (aC (aB 3) (aC (fIx (aB 4) (fC (.int (-1)))) aL))))))) (bU (fI2 IntMulOk (fun i j=>.int (i * j)) (fIx (aB 4) (fC (.int (-1)))) (aB 5))) bX)
    (bU (aW (fIx (aB 0) (fIx (aB 1) (fI0 (fun i j=>.int (i + j)) (fC (.int 1)) (aB 3)))))))
noncomputable def jG (C:Addr):List D->Option D:=runF 6 (xS C)
noncomputable def lH (C:Addr):En->Res :=
    (aO (rIf (fEq (fIx (aB 1) (fC (.int 0))) (fC (.str "fix"))) (bU (fI2 IntMulOk (fun i j=>.int (i * j)) (fIx (aB 1) (fC (.int 1))) (aB 4))) bX)
    (aO (bR 5 (aP (jG C) [] (aC (aB 0) (aC (aB 1) (aC (aB 2) (aC (fC (.int 0)) (aC (aB 3) (aC (aB 4) aL))))))))
    (aO (rIf (fEq (fIx (aB 1) (fC (.int 0))) (fC (.str "not"))) (bU (fI0 (fun i j=>.int (i - j)) (aB 4) (aB 5))) bX)
    (aO (bR 6 (aP (jG C) [] (aC (aB 0) (aC (aB 1) (aC (aB 2) (aC (fC (.int 1)) (aC (aB 3) (aC (aB 4) aL))))))))
    (aO (rIf (fEq (fIx (aB 1) (fC (.int 0))) (fC (.str "and"))) (bU (fI0 (fun i j=>.int (Builtin.bitAnd i j)) (aB 5) (aB 6))) bX)
    (aO (rIf (fEq (fIx (aB 1) (fC (.int 0))) (fC (.str "or"))) (bU (fI0 (fun i j=>.int (Builtin.bitOr i j)) (aB 5) (aB 6))) bX)
    (bU (fI0 (fun i j=>.int (Builtin.bitXor i j)) (aB 5) (aB 6)))))))))
noncomputable def eO (C:Addr):List D->Option D:=runF 7 (lH C)
noncomputable def rY (C:Addr):En->Res :=
    (aO (bR 3 (fI0 (fun i j=>.int (i - j)) (fI2 dS (fun i j=>.int (i * 2 ^ j.toNat)) (fC (.int 1)) (fI2 dS (fun i j=>.int (i * 2 ^ j.toNat)) (fC (.int 1)) (aB 0))) (fC (.int 1))))
    (aO (bR 4 (jI aL))
    (aO (dZ [] (sB1 hG (aC (fI0 (fun i j=>.int (i + j)) (aB 0) (fB1 fN (aC (aB 1) aL))) aL)) (gtN 5) (aO (rIf (fBI (fun i j=>decide (i < j)) (aB 5) (aB 0)) (gQ 4 (fB1 vY (aC (dB [5] (sB1 hG (aC (fI2 dS (fun i j=>.int (i * 2 ^ j.toNat)) (fC (.int 1)) (aB 0)) aL)) (fEq (fI2 (fun _ j=>0 < j) (fun i j=>.int (i % j)) (fI2 fE (fun i j=>.int (i / j)) (aB 0) (fI2 dS (fun i j=>.int (i * 2 ^ j.toNat)) (fC (.int 1)) (aB 1))) (fC (.int 2))) (fC (.int 1))) (fI2 dS (fun i j=>.int (i * 2 ^ j.toNat)) (fC (.int 1)) (aB 0))) aL))) (gQ 4 (aP (eO C) [] (aC (aB 4) (aC (fIx (aB 1) (fI0 (fun i j=>.int (i - j)) (aB 5) (aB 0))) (aC (aB 5) (aC (aB 2) (aC (aB 3) aL))))))))
    (rIf (kC (sX true (aB 2)) (kC (fEq (fIx (aB 2) (fC (.int 0))) (fC (.str "wire"))) (fEq (fIx (aB 2) (fC (.int 1))) (aB 5)))) (wR 4 (aB 5) (fI2 IntMulOk (fun i j=>.int (i * j)) (fIx (aB 2) (fC (.int 2))) (aB 3))) bX)))
    (lW 4))))
noncomputable def fI (C:Addr):List D->Option D:=runF 6 (rY C)
noncomputable def pV (C:Addr):En->Res :=
    (aO (bR 4 (aP (fI C) [] (aC (aB 0) (aC (aB 1) (aC (fC .non) aL)))))
    (aO (bR 5 (aP (fI C) [] (aC (aB 0) (aC (aB 1) (aC (aB 3) aL)))))
    (aO (bR 6 (fC (.int 0)))
    (aO (dZ [2] (dP (aB 2)) (gtN 7) (bR 6 (fI0 (fun i j=>.int (Builtin.bitOr i j)) (aB 6) (fI0 (fun i j=>.int (Builtin.bitXor i j)) (fIx (aB 4) (aB 7)) (fIx (aB 5) (aB 7))))))
    (bU (aW (aB 6)))))))
noncomputable def eB (C:Addr):List D->Option D:=runF 8 (pV C)
noncomputable def sA (C:Addr):En->Res :=
    (aO (rIf (fOr (fBI (fun i j=>decide (i < j)) (aB 2) (aB 0)) (fEq (fIx (fIx (aB 1) (fI0 (fun i j=>.int (i - j)) (aB 2) (aB 0))) (fC (.int 0))) (fC (.str "fix")))) (bU (jI aL)) bX)
    (bU (fB1 gZ (aC (fSl (fIx (aB 1) (fI0 (fun i j=>.int (i - j)) (aB 2) (aB 0))) (fP (fC (.int 1))) lR) aL))))
noncomputable def gU (C:Addr):List D->Option D:=runF 3 (sA C)
noncomputable def rZ (C:Addr):En->Res :=
    (aO (bR 3 (jI aL))
    (aO (dZ [2] (dP (aB 2)) (gtN 4) (rIf (iN (fIn (aB 4) (aB 3))) (gQ 3 (aW (aB 4))) bX))
    (aO (bR 5 (fC (.int 0)))
    (aO (rWh (fBI (fun i j=>decide (i < j)) (aB 5) (fB1 fN (aC (aB 3) aL))) (aO (dZ [] (dP (aP (gU C) [] (aC (aB 0) (aC (aB 1) (aC (fIx (aB 3) (aB 5)) aL))))) (gtN 6) (rIf (iN (fIn (aB 6) (aB 3))) (gQ 3 (aW (aB 6))) bX))
    (bR 5 (fI0 (fun i j=>.int (i + j)) (aB 5) (fC (.int 1))))))
    (bU (fB1 qO (aC (aB 3) aL)))))))
noncomputable def gC (C:Addr):List D->Option D:=runF 7 (rZ C)
noncomputable def mE (C:Addr):En->Res :=
    (aO (rIf (kC (fBI (fun i j=>decide (j <= i)) (aB 2) (aB 0)) (fEq (fIx (fIx (aB 1) (fI0 (fun i j=>.int (i - j)) (aB 2) (aB 0))) (fC (.int 0))) (fC (.str "fix")))) (bU (jI (aC (fI0 (fun i j=>.int (i - j)) (fC (.int 1)) (fIx (fIx (aB 1) (fI0 (fun i j=>.int (i - j)) (aB 2) (aB 0))) (fC (.int 1)))) aL))) bX)
    (bU (jI (aC (fC (.int 0)) (aC (fC (.int 1)) aL)))))
noncomputable def cZ (C:Addr):List D->Option D:=runF 3 (mE C)
noncomputable def sB (C:Addr):En->Res :=
    (aO (bR 3 (jI aL))
    (aO (dZ [] (dP (aP (gC C) [] (aC (aB 0) (aC (aB 1) (aC (aB 2) aL))))) (gtN 4) (aO (kZ 3 3 (dB [4] (dP (aP (cZ C) [] (aC (aB 0) (aC (aB 1) (aC (aB 4) aL))))) fTT (iM (aC (fC (.str "wire")) (aC (aW (aB 1)) (aC (aW (aB 0)) aL))))))
    (dZ [] (sB1 mK (aC (aP (gU C) [] (aC (aB 0) (aC (aB 1) (aC (aB 4) aL)))) aL)) (gtT [5,6]) (kZ 3 3 (dB [4,5] (dP (aP (cZ C) [] (aC (aB 0) (aC (aB 1) (aC (aB 6) aL))))) fTT (iM (aC (fC (.str "leg")) (aC (aW (aB 1)) (aC (aW (aB 2)) (aC (aW (aB 0)) aL))))))))))
    (lW 3)))
noncomputable def fJ (C:Addr):List D->Option D:=runF 7 (sB C)
noncomputable def E8 (C:Addr):En->Res :=
    (aO (dZ [0] (dP (aB 0)) (gtN 2) (rIf (kC (fBI (fun i j=>decide (j < i)) (aB 2) (fC (.int 0))) (fEq (fB1 fN (aC (dB [2] (dP (aB 1)) (fEq (fI0 (fun i j=>.int (Builtin.bitAnd i j)) (fI2 (fun _ j=>0 <= j) (fun i j=>.int (i / 2 ^ j.toNat)) (aB 1) (aB 0)) (fC (.int 1))) (fC (.int 1))) (aW (aB 0))) aL)) (fC (.int 0)))) (bU (fC (.bl false))) bX))
    (bU (fC (.bl true))))
noncomputable def iV (C:Addr):List D->Option D:=runF 3 (E8 C)
noncomputable def Z1I (C:Addr):En->Res :=
    (aO (bR 1 (fSl (aB 0) lR (fP (fC (.int 14)))))
    (aO (bR 2 (fC (.int 3)))
    (aO (rIf (fBI (fun i j=>decide (j < i)) (fB1 fN (aC (aB 1) aL)) (fC (.int 0))) (bR 2 (fB1 vY (aC (fSl (aB 0) lR (fP (fC (.int 63)))) aL))) bX)
    (aO (bR 3 (fI2 (fun _ j=>0 < j) (fun i j=>.int (i % j)) (aB 2) (fC (.int 7))))
    (aO (L8 [] (gtT [4,5]) (aP (fK C) [] (aC (aB 1) (aC (aB 3) (aC (fC (.int 14)) (aC (fI2 (fun _ j=>0 < j) (fun i j=>.int (i % j)) (fI2 fE (fun i j=>.int (i / j)) (aB 2) (fC (.int 7))) (fC (.int 8))) aL))))))
    (aO (bR 6 (aP (kP C) [] (aC (fB1 (gG C) (aC (aB 3) (aC (fB1 gZ (aC (aB 4) aL)) (aC (fB1 gZ (aC (aB 5) aL)) aL)))) aL)))
    (aO (rIf (iN (fB (Z05 "list" (aB 6)))) (bU (fC (.bl false))) bX)
    (aO (bR 7 (fC (.int (-1))))
    (aO (dZ [6] (dP (aB 6)) (gtN 8) (aO (rIf (fOr (iN (fB (aP (hX C) [] (aC (aB 8) aL)))) (fOr (fBI (fun i j=>decide (i <= j)) (aB 8) (aB 7)) (fBI (fun i j=>decide (j <= i)) (aB 8) (fI2 dS (fun i j=>.int (i * 2 ^ j.toNat)) (fC (.int 1)) (aB 3))))) (bU (fC (.bl false))) bX)
    (U4 7 [8] (aB 8))))
    (aO (bR 9 (dB [3,4,5] (dP (aP (fJ C) [] (aC (aB 3) (aC (aB 4) (aC (aB 5) aL))))) fTT (aP (eB C) [] (aC (aB 1) (aC (aB 2) (aC (aB 3) (aC (aB 0) aL)))))))
    (aO (rIf (iN (fB (aP (iV C) [] (aC (aB 9) (aC (aB 6) aL))))) (bU (fC (.bl false))) bX)
    (aO (dZ [] (sB1 hG (aC (fB1 fN (aC (aB 6) aL)) aL)) (gtN 10) (rIf (fB (aP (iV C) [] (aC (aB 9) (aC (B7 (fSl (aB 6) lR (fP (aB 10))) (fSl (aB 6) (fP (fI0 (fun i j=>.int (i + j)) (aB 10) (fC (.int 1)))) lR)) aL)))) (bU (fC (.bl false))) bX))
    (bU (fC (.bl true)))))))))))))))
noncomputable def Y1 (C:Addr):List D->Option D:=runF 11 (Z1I C)
section
variable {P:Program}{w:World}{K:Frag}{mg:Str->Option Value}{base:Heap}{C fA:Addr}{fd:FuncData}
theorem sc_init_Circuit:aT ["self","ins","rows","outs"] ["self","ins","rows","outs"] (aE cE):=⟨rfl,rfl,rfl,by decide +kernel,rfl,by decide +kernel,by decide +kernel⟩
theorem qB  (F:FunD K "__init__" "Circuit.__init__" cE fA fd) (z_list:mg "list" = none) (z_tuple:mg "tuple" = none) (hC:Cls K C) (hA_ins:NoAttr K C "ins") (hA_rows:NoAttr K C "rows") (hA_outs:NoAttr K C "outs") :
    FnOk P w K mg base CX0 1 fA fd ["self","ins","rows","outs"] (spI K C 3 (gG C)):=by
  have nd:=sc_init_Circuit.nd
  refine F.raw sc_init_Circuit (fun vs H Q E h=>Z0y h) fun cdv A outer s H vs Q E hr hsp=>?_
  obtain⟨x,dx,H0,us,ds,d,fp,rfl,hx,hdx,hne,rfl,h1,h2,h3,q⟩:=hsp
  obtain⟨F,hF⟩:=uS h2
  have hl:=h2.length
  match ds,us,h1,hl,hF,h3 with
  | [i,r,o],[u1,u2,u3],_,_,hF,h3 =>
    unfold gG at h3
    simp only at h3
    split at h3
    . rename_i a b c e1 e2 e3
      cases h3
      refine⟨_,rH (zL (pv 0) (show QE _ true [] _ _ from (QE.flat (aA 1))) rfl) (rH (zL (pv 0) (show QE _ true [] _ _ from (jR (fr:=[]) rfl (by rfl) (dD (aA 2)) (show List.Nodup (["row"]:List Str) from by decide +kernel) (by rfl) (fun _ _ _ _ _ _=>iU) (fun _ _ _ _ _ _=>(qp (V0 (by rfl) z_tuple (aA 0)))))) rfl) (D6 (zL (pv 0) (show QE _ true [] _ _ from (qp (nQ (by rfl) z_list (aA 3)))) rfl))),?_⟩
      refine Z3q (F:=fun i=>F (i - 1)) (us:=[u1,u2,u3]) (ds:=[i,r,o]) (fp:=fp) hx hdx hne (fun j ow d' e=>?_) rfl e1 e2 e3 hC hA_ins hA_rows hA_outs (by decide +kernel) (by decide +kernel) (by decide +kernel) q
      match j,e with
      | 1,e=>cases e;exact (let ⟨v,a1,a2⟩:=hF 0 i rfl;⟨v,by cases a1;rfl,a2⟩)
      | 2,e=>cases e;exact (let ⟨v,a1,a2⟩:=hF 1 r rfl;⟨v,by cases a1;rfl,a2⟩)
      | 3,e=>cases e;exact (let ⟨v,a1,a2⟩:=hF 2 o rfl;⟨v,by cases a1;rfl,a2⟩)
      | 0,e=>cases e
      | j + 4,e=>cases e
    . cases h3
theorem sc_gate_value:aT ["row","legs","ones","kind"] ["row","legs","ones"] (aE cU):=⟨rfl,rfl,rfl,by decide +kernel,rfl,by decide +kernel,by decide +kernel⟩
theorem sT   (F:FunD K "gate_value" "gate_value" cU fA fd)  :
    FnOk P w K mg base CX0 1 fA fd ["row","legs","ones"] (spD K 3 (cM C)):=by
  have nd:=sc_gate_value.nd
  refine F.ok sc_gate_value rfl rfl fun cdv A outer s H E hr=>?_
  exact (aF (bC (i:=3) nd rfl (Or.inl rfl) (QE.flat (bN (aA 0) (qp aG))))
      (aF (cN (dX (dG hr) (aA 3) (qp cF)) (aH (aY (qp (aQ gB (aA 2) (bN (aA 0) (qp aG)))))) bI)
      (aF (cN (dX (dG hr) (aA 3) (qp cF)) (aH (aY (qp (aX oN (aA 2) (bN (aA 1) (qp aG)))))) bI)
      (aF (cN (dX (dG hr) (aA 3) (qp cF)) (aH (aY (qp (aX rL (bN (aA 1) (qp aG)) (bN (aA 1) (qp aG)))))) bI)
      (aF (cN (dX (dG hr) (aA 3) (qp cF)) (aH (aY (qp (aX wX (bN (aA 1) (qp aG)) (bN (aA 1) (qp aG)))))) bI)
      (aH (aY (qp (aX oN (bN (aA 1) (qp aG)) (bN (aA 1) (qp aG)))))))))))
theorem sc_leg_wires:aT ["row"] ["row"] (aE dI):=⟨rfl,rfl,rfl,by decide +kernel,rfl,by decide +kernel,by decide +kernel⟩
theorem uZ   (F:FunD K "leg_wires" "leg_wires" dI fA fd) (z_list:mg "list" = none) :
    FnOk P w K mg base CX0 1 fA fd ["row"] (spD K 1 (cH C)):=by
  have nd:=sc_leg_wires.nd
  refine F.ok sc_leg_wires rfl rfl fun cdv A outer s H E hr=>?_
  exact (aF (cN (dX (dG hr) (bN (aA 0) (qp aG)) (qp cF)) (aH (aY (fG aK))) bI)
      (aH (aY (qp (nQ (by rfl) z_list (qp (iG (aA 0) (jP (qp aG)) jQ)))))))
theorem sc_leg_values:aT ["row","wire","values","ones","fault","legs"] ["row","wire","values","ones","fault"] (aE cT):=⟨rfl,rfl,rfl,by decide +kernel,rfl,by decide +kernel,by decide +kernel⟩
theorem sS   (F:FunD K "leg_values" "leg_values" cT fA fd) (c_leg_wires:aN P w K mg base "leg_wires" [] 1 1 (cH C)) :
    FnOk P w K mg base CX0 2 fA fd ["row","wire","values","ones","fault"] (spD K 5 (cG C)):=by
  have nd:=sc_leg_values.nd
  refine F.ok sc_leg_values rfl rfl fun cdv A outer s H E hr=>?_
  exact (aF (nD (i:=5) (fr:=[2]) rfl nd rfl (Or.inl rfl) (by rfl) (dD (m1:=true) (rs:=[]) (bD c_leg_wires (hr.mono (by decide)) (.cons NArgs.nil) rfl (aD (QE.more (aA 0) (by simp)) (aK (m:=false) (rs:=[0]))))) (show List.Nodup (["source","values"]:List Str) from by decide +kernel) (by rfl) (fun _ _ _ _ _ _=>iU) (fun _ _ _ _ _ _=>(QE.flat (bN (aA 1) (aA 0)))))
      (aF (cN (QW.qt (jD (qJ (aA 4)) (jD (dX (dG hr) (bN (aA 4) (qp aG)) (qp cF)) (jO (dX (dG hr) (bN (aA 4) (qp aG)) (aA 1)))))) (aH (D3 5 (bN (aA 4) (qp aG)) (qp (aQ gB (aA 3) (bN (aA 4) (qp aG)))))) bI)
      (aH (lA (i:=5)))))
theorem sc_on_wire:aT ["value","wire","ones","fault"] ["value","wire","ones","fault"] (aE fQ):=⟨rfl,rfl,rfl,by decide +kernel,rfl,by decide +kernel,by decide +kernel⟩
theorem zO   (F:FunD K "on_wire" "on_wire" fQ fA fd)  :
    FnOk P w K mg base CX0 1 fA fd ["value","wire","ones","fault"] (spD K 4 (dH C)):=by
  have nd:=sc_on_wire.nd
  refine F.ok sc_on_wire rfl rfl fun cdv A outer s H E hr=>?_
  exact (aF (cN (QW.qt (jD (qJ (aA 3)) (jD (dX (dG hr) (bN (aA 3) (qp aG)) (qp cF)) (jO (dX (dG hr) (bN (aA 3) (qp aG)) (aA 1)))))) (aH (aY (qp (aQ gB (aA 2) (bN (aA 3) (qp aG)))))) bI)
      (aH (aY (QE.flat (aA 0)))))
theorem sc_borne:aT ["circuit","starts","ones","fault","values","start","row","wire","legs"] ["circuit","starts","ones","fault"] (aE iT):=⟨rfl,rfl,rfl,by decide +kernel,rfl,by decide +kernel,by decide +kernel⟩
theorem X5   (F:FunD K "borne" "borne" iT fA fd) (c_gate_value:aN P w K mg base "gate_value" [] 1 3 (cM C)) (c_leg_values:aN P w K mg base "leg_values" [] 2 5 (cG C)) (c_on_wire:aN P w K mg base "on_wire" [] 1 4 (dH C)) (z_len:mg "len" = none) (hC:Cls K C) (hA_rows:NoAttr K C "rows") :
    FnOk P w K mg base CX0 3 fA fd ["circuit","starts","ones","fault"] (spD K 4 (mO C)):=by
  have nd:=sc_borne.nd
  refine F.ok sc_borne rfl rfl fun cdv A outer s H E hr=>?_
  exact (aF (bC (i:=4) nd rfl (Or.inl rfl) (fG aK))
      (aF (cX rfl PassesOwn.never (dD (aA 1)) (cY (i:=5) nd rfl (Or.inl rfl)) (aH (hU 4 (bD c_on_wire (hr.mono (by decide)) (.cons (.cons (.cons (.cons NArgs.nil)))) rfl (aD (QE.more (aA 5) (by simp)) (aD (QE.weak (qp (iJ (by rfl) z_len (aA 4)))) (aD (QE.more (aA 2) (by simp)) (aD (QE.more (aA 3) (by simp)) (aK (m:=false) (rs:=[5,2,3]))))))))))
      (aF (cX rfl PassesOwn.never (dD (fH hC hA_rows (aA 0))) (cY (i:=6) nd rfl (Or.inl rfl)) (aF (bC (i:=7) nd rfl (Or.inl rfl) (qp (iJ (by rfl) z_len (aA 4))))
      (aF (bC (i:=8) nd rfl (Or.inl rfl) (bD c_leg_values (hr.mono (by decide)) (.cons (.cons (.cons (.cons (.cons NArgs.nil))))) rfl (aD (QE.more (aA 6) (by simp)) (aD (QE.more (aA 7) (by simp)) (aD (QE.more (aA 4) (by simp)) (aD (QE.more (aA 2) (by simp)) (aD (QE.more (aA 3) (by simp)) (aK (m:=false) (rs:=[6,7,4,2,3])))))))))
      (aH (hU 4 (bD c_on_wire (hr.mono (by decide)) (.cons (.cons (.cons (.cons NArgs.nil)))) rfl (aD (QE.weak (bD c_gate_value (hr.mono (by decide)) (.cons (.cons (.cons NArgs.nil))) rfl (aD (QE.more (aA 6) (by simp)) (aD (QE.more (aA 8) (by simp)) (aD (QE.more (aA 2) (by simp)) (aK (m:=false) (rs:=[6,8,2]))))))) (aD (QE.more (aA 7) (by simp)) (aD (QE.more (aA 2) (by simp)) (aD (QE.more (aA 3) (by simp)) (aK (m:=false) (rs:=[7,2,3]))))))))))))
      (aH (lA (i:=4))))))
theorem sc_full_table:aT ["ins"] ["ins"] (aE cV):=⟨rfl,rfl,rfl,by decide +kernel,rfl,by decide +kernel,by decide +kernel⟩
theorem sU   (F:FunD K "full_table" "full_table" cV fA fd)  :
    FnOk P w K mg base CX0 1 fA fd ["ins"] (spD K 1 (bW C)):=by
  have nd:=sc_full_table.nd
  refine F.ok sc_full_table rfl rfl fun cdv A outer s H E hr=>?_
  exact (aH (aY (qp (aX eN (qp (aQ eZ (qp aG) (qp (aQ eZ (qp aG) (aA 0))))) (qp aG)))))
theorem sc_input_tables:aT ["ins","found","k","width"] ["ins"] (aE cD):=⟨rfl,rfl,rfl,by decide +kernel,rfl,by decide +kernel,by decide +kernel⟩
theorem qA   (F:FunD K "input_tables" "input_tables" cD fA fd) (c_full_table:aN P w K mg base "full_table" [] 1 1 (bW C)) (z_range:mg "range" = none) :
    FnOk P w K mg base CX0 2 fA fd ["ins"] (spD K 1 (dY C)):=by
  have nd:=sc_input_tables.nd
  refine F.ok sc_input_tables rfl rfl fun cdv A outer s H E hr=>?_
  exact (aF (bC (i:=1) nd rfl (Or.inl rfl) (fG aK))
      (aF (cX rfl PassesOwn.never (iX (rs:=[]) (by rfl) z_range (aD (QE.more (aA 0) (by simp)) (aK (m:=false) (rs:=[0])))) (cY (i:=2) nd rfl (Or.inl rfl)) (aF (bC (i:=3) nd rfl (Or.inr rfl) (qp (aQ eZ (qp aG) (aA 2))))
      (aF (nD (i:=1) (fr:=[3]) rfl nd rfl (Or.inl rfl) (by rfl) (dD (aA 1)) (show List.Nodup (["table","width"]:List Str) from by decide +kernel) (by rfl) (fun _ _ _ _ _ _=>iU) (fun _ _ _ _ _ _=>(qp (aX wX (aA 0) (qp (aQ eZ (aA 0) (aA 1)))))))
      (aH (hU 1 (qp (aQ eZ (bD c_full_table (hr.mono (by decide)) (.cons NArgs.nil) rfl (aD (QE.more (aA 2) (by simp)) (aK (m:=false) (rs:=[2])))) (aA 3))))))))
      (aH (lA (i:=1)))))
theorem sc_tables:aT ["circuit","fault"] ["circuit","fault"] (aE eQ):=⟨rfl,rfl,rfl,by decide +kernel,rfl,by decide +kernel,by decide +kernel⟩
theorem N3   (F:FunD K "tables" "tables" eQ fA fd) (c_borne:aN P w K mg base "borne" [] 3 4 (mO C)) (c_full_table:aN P w K mg base "full_table" [] 1 1 (bW C)) (c_input_tables:aN P w K mg base "input_tables" [] 2 1 (dY C)) (hC:Cls K C) (hA_ins:NoAttr K C "ins") :
    FnOk P w K mg base CX0 4 fA fd ["circuit","fault"] (spD K 2 (jF C)):=by
  have nd:=sc_tables.nd
  refine F.ok sc_tables rfl rfl fun cdv A outer s H E hr=>?_
  exact (aH (aY (bD c_borne (hr.mono (by decide)) (.cons (.cons (.cons (.cons NArgs.nil)))) rfl (aD (QE.more (aA 0) (by simp)) (aD (QE.weak (bD c_input_tables (hr.mono (by decide)) (.cons NArgs.nil) rfl (aD (QE.more (fH hC hA_ins (aA 0)) (by simp)) (aK (m:=false) (rs:=[0]))))) (aD (QE.weak (bD c_full_table (hr.mono (by decide)) (.cons NArgs.nil) rfl (aD (QE.more (fH hC hA_ins (aA 0)) (by simp)) (aK (m:=false) (rs:=[0]))))) (aD (QE.more (aA 1) (by simp)) (aK (m:=false) (rs:=[0,1])))))))))
theorem sc_at_outs:aT ["circuit","values"] ["circuit","values"] (aE fT):=⟨rfl,rfl,rfl,by decide +kernel,rfl,by decide +kernel,by decide +kernel⟩
theorem zR   (F:FunD K "at_outs" "at_outs" fT fA fd) (hC:Cls K C) (hA_outs:NoAttr K C "outs") :
    FnOk P w K mg base CX0 1 fA fd ["circuit","values"] (spD K 2 (iY C)):=by
  have nd:=sc_at_outs.nd
  refine F.ok sc_at_outs rfl rfl fun cdv A outer s H E hr=>?_
  exact (aH (aY (jR (fr:=[1]) rfl (by rfl) (dD (fH hC hA_outs (aA 0))) (show List.Nodup (["out","values"]:List Str) from by decide +kernel) (by rfl) (fun _ _ _ _ _ _=>iU) (fun _ _ _ _ _ _=>(QE.flat (bN (aA 1) (aA 0)))))))
theorem sc_out_tables:aT ["circuit","fault"] ["circuit","fault"] (aE bS):=⟨rfl,rfl,rfl,by decide +kernel,rfl,by decide +kernel,by decide +kernel⟩
theorem sR   (F:FunD K "out_tables" "out_tables" bS fA fd) (c_at_outs:aN P w K mg base "at_outs" [] 1 2 (iY C)) (c_tables:aN P w K mg base "tables" [] 4 2 (jF C)) :
    FnOk P w K mg base CX0 5 fA fd ["circuit","fault"] (spD K 2 (cL C)):=by
  have nd:=sc_out_tables.nd
  refine F.ok sc_out_tables rfl rfl fun cdv A outer s H E hr=>?_
  exact (aH (aY (bD c_at_outs (hr.mono (by decide)) (.cons (.cons NArgs.nil)) rfl (aD (QE.more (aA 0) (by simp)) (aD (QE.weak (bD c_tables (hr.mono (by decide)) (.cons (.cons NArgs.nil)) rfl (aD (QE.more (aA 0) (by simp)) (aD (QE.more (aA 1) (by simp)) (aK (m:=false) (rs:=[0,1])))))) (aK (m:=false) (rs:=[0])))))))
theorem sc_sources_of:aT ["circuit","wire"] ["circuit","wire"] (aE cS):=⟨rfl,rfl,rfl,by decide +kernel,rfl,by decide +kernel,by decide +kernel⟩
theorem sQ   (F:FunD K "sources_of" "sources_of" cS fA fd) (c_leg_wires:aN P w K mg base "leg_wires" [] 1 1 (cH C)) (hC:Cls K C) (hA_ins:NoAttr K C "ins") (hA_rows:NoAttr K C "rows") :
    FnOk P w K mg base CX0 2 fA fd ["circuit","wire"] (spD K 2 (bV C)):=by
  have nd:=sc_sources_of.nd
  refine F.ok sc_sources_of rfl rfl fun cdv A outer s H E hr=>?_
  exact (aF (cN (wU (aA 1) (fH hC hA_ins (aA 0))) (aH (aY (fG aK))) bI)
      (aH (aY (bD c_leg_wires (hr.mono (by decide)) (.cons NArgs.nil) rfl (aD (QE.more (bN (fH hC hA_rows (aA 0)) (qp (aX eN (aA 1) (fH hC hA_ins (aA 0))))) (by simp)) (aK (m:=false) (rs:=[0])))))))
theorem sc_needed:aT ["circuit","marked","out","wire","source"] ["circuit"] (aE gM):=⟨rfl,rfl,rfl,by decide +kernel,rfl,by decide +kernel,by decide +kernel⟩
theorem N4   (F:FunD K "needed" "needed" gM fA fd) (c_sources_of:aN P w K mg base "sources_of" [] 2 2 (bV C)) (z_len:mg "len" = none) (z_range:mg "range" = none) (z_sorted:mg "sorted" = none) (hC:Cls K C) (hA_ins:NoAttr K C "ins") (hA_outs:NoAttr K C "outs") (hA_rows:NoAttr K C "rows") :
    FnOk P w K mg base CX0 3 fA fd ["circuit"] (spD K 1 (kQ C)):=by
  have nd:=sc_needed.nd
  refine F.ok sc_needed rfl rfl fun cdv A outer s H E hr=>?_
  exact (aF (bC (i:=1) nd rfl (Or.inl rfl) wV)
      (aF (cX rfl PassesOwn.never (dD (fH hC hA_outs (aA 0))) (cY (i:=2) nd rfl (Or.inl rfl)) (aH (D4 (Z8 hr) 1 (aA 2) (qp nR))))
      (aF (cX rfl PassesOwn.never (M4 (rs:=[]) (by rfl) z_range (aD (QE.weak (qp (aX eN (qp (aX fY (fH hC hA_ins (aA 0)) (qp (iJ (by rfl) z_len (fH hC hA_rows (aA 0)))))) (qp aG)))) (aD (QE.weak (qp (aX eN (fH hC hA_ins (aA 0)) (qp aG)))) (aD (QE.weak (qp uV)) (aK (m:=false) (rs:=[])))))) (cY (i:=3) nd rfl (Or.inl rfl)) (aH (cN (Z24 (Z8 hr) (aA 3) (aA 1)) (aH (cX rfl PassesOwn.never (dD (m1:=true) (rs:=[]) (bD c_sources_of (hr.mono (by decide)) (.cons (.cons NArgs.nil)) rfl (aD (QE.more (aA 0) (by simp)) (aD (QE.more (aA 3) (by simp)) (aK (m:=false) (rs:=[0,3])))))) (cY (i:=4) nd rfl (Or.inl rfl)) (aH (D4 (Z8 hr) 1 (aA 4) (qp nR))))) bI)))
      (aH (aY (qp (V1 rfl (by rfl) z_sorted (aA 1))))))))
theorem sc_bits_to_stick:aT ["circuit","wire"] ["circuit","wire"] (aE bT):=⟨rfl,rfl,rfl,by decide +kernel,rfl,by decide +kernel,by decide +kernel⟩
theorem oO   (F:FunD K "bits_to_stick" "bits_to_stick" bT fA fd) (hC:Cls K C) (hA_ins:NoAttr K C "ins") (hA_rows:NoAttr K C "rows") :
    FnOk P w K mg base CX0 1 fA fd ["circuit","wire"] (spD K 2 (bB C)):=by
  have nd:=sc_bits_to_stick.nd
  refine F.ok sc_bits_to_stick rfl rfl fun cdv A outer s H E hr=>?_
  exact (aF (cN (QW.qt (jD (D2 (aA 1) (fH hC hA_ins (aA 0))) (jO (dX (dG hr) (bN (bN (fH hC hA_rows (aA 0)) (qp (aX eN (aA 1) (fH hC hA_ins (aA 0))))) (qp aG)) (qp cF))))) (aH (aY (fG (aD (qp (aX eN (qp aG) (bN (bN (fH hC hA_rows (aA 0)) (qp (aX eN (aA 1) (fH hC hA_ins (aA 0))))) (qp aG)))) aK)))) bI)
      (aH (aY (fG (aD (qp aG) (aD (qp aG) aK))))))
theorem sc_all_faults:aT ["circuit","faults","wire","bit","leg","source"] ["circuit"] (aE cW):=⟨rfl,rfl,rfl,by decide +kernel,rfl,by decide +kernel,by decide +kernel⟩
theorem sV   (F:FunD K "all_faults" "all_faults" cW fA fd) (c_bits_to_stick:aN P w K mg base "bits_to_stick" [] 1 2 (bB C)) (c_needed:aN P w K mg base "needed" [] 3 1 (kQ C)) (c_sources_of:aN P w K mg base "sources_of" [] 2 2 (bV C)) (z_enumerate:mg "enumerate" = none) :
    FnOk P w K mg base CX0 4 fA fd ["circuit"] (spD K 1 (fW C)):=by
  have nd:=sc_all_faults.nd
  refine F.ok sc_all_faults rfl rfl fun cdv A outer s H E hr=>?_
  exact (aF (bC (i:=1) nd rfl (Or.inl rfl) (fG aK))
      (aF (cX rfl PassesOwn.never (dD (m1:=true) (rs:=[]) (bD c_needed (hr.mono (by decide)) (.cons NArgs.nil) rfl (aD (QE.more (aA 0) (by simp)) (aK (m:=false) (rs:=[0]))))) (cY (i:=2) nd rfl (Or.inl rfl)) (aF (cX rfl PassesOwn.never (dD (m1:=true) (rs:=[]) (bD c_bits_to_stick (hr.mono (by decide)) (.cons (.cons NArgs.nil)) rfl (aD (QE.more (aA 0) (by simp)) (aD (QE.more (aA 2) (by simp)) (aK (m:=false) (rs:=[0,2])))))) (cY (i:=3) nd rfl (Or.inl rfl)) (aH (hU 1 (jZ (aD (qp cF) (aD (QE.flat (aA 2)) (aD (QE.flat (aA 3)) aK)))))))
      (aH (cX rfl PassesOwn.never (uU (m1:=true) (rs:=[]) (by rfl) z_enumerate (aD (bD c_sources_of (hr.mono (by decide)) (.cons (.cons NArgs.nil)) rfl (aD (QE.more (aA 0) (by simp)) (aD (QE.more (aA 2) (by simp)) (aK (m:=false) (rs:=[0,2]))))) aK)) (oJ (is:=[4,5]) rfl (eR (dU (i:=4) nd rfl (Or.inl rfl)) (eR (dU (i:=5) nd rfl (Or.inl rfl)) mN)) rfl) (aH (cX rfl PassesOwn.never (dD (m1:=true) (rs:=[]) (bD c_bits_to_stick (hr.mono (by decide)) (.cons (.cons NArgs.nil)) rfl (aD (QE.more (aA 0) (by simp)) (aD (QE.more (aA 5) (by simp)) (aK (m:=false) (rs:=[0,5])))))) (cY (i:=3) nd rfl (Or.inl rfl)) (aH (hU 1 (jZ (aD (qp cF) (aD (QE.flat (aA 2)) (aD (QE.flat (aA 4)) (aD (QE.flat (aA 3)) aK)))))))))))))
      (aH (lA (i:=1)))))
theorem sc_differing:aT ["one_tables","other_tables","found","one","other"] ["one_tables","other_tables"] (aE dO):=⟨rfl,rfl,rfl,by decide +kernel,rfl,by decide +kernel,by decide +kernel⟩
theorem vE   (F:FunD K "differing" "differing" dO fA fd) (z_zip:mg "zip" = none) :
    FnOk P w K mg base CX0 1 fA fd ["one_tables","other_tables"] (spD K 2 (gF C)):=by
  have nd:=sc_differing.nd
  refine F.ok sc_differing rfl rfl fun cdv A outer s H E hr=>?_
  exact (aF (bC (i:=2) nd rfl (Or.inl rfl) (qp aG))
      (aF (cX rfl PassesOwn.never (U9 (rs:=[0,1]) (by rfl) z_zip (aD (QE.more (aA 0) (by simp)) (aD (QE.more (aA 1) (by simp)) (aK (m:=false) (rs:=[0,1]))))) (oJ (is:=[3,4]) rfl (eR (dU (i:=3) nd rfl (Or.inl rfl)) (eR (dU (i:=4) nd rfl (Or.inl rfl)) mN)) rfl) (aH (bC (i:=2) nd rfl (Or.inl rfl) (qp (aX wX (aA 2) (qp (aX oN (aA 3) (aA 4))))))))
      (aH (aY (QE.flat (aA 2))))))
theorem sc_tellings:aT ["circuit","faults","good"] ["circuit","faults"] (aE eE):=⟨rfl,rfl,rfl,by decide +kernel,rfl,by decide +kernel,by decide +kernel⟩
theorem wZ   (F:FunD K "tellings" "tellings" eE fA fd) (c_differing:aN P w K mg base "differing" [] 1 2 (gF C)) (c_out_tables_d:aN P w K mg base "out_tables" [.non] 5 2 (cL C)) (c_out_tables:aN P w K mg base "out_tables" [] 5 2 (cL C)) :
    FnOk P w K mg base CX0 6 fA fd ["circuit","faults"] (spD K 2 (hV C)):=by
  have nd:=sc_tellings.nd
  refine F.ok sc_tellings rfl rfl fun cdv A outer s H E hr=>?_
  exact (aF (bC (i:=2) nd rfl (Or.inr rfl) (bD c_out_tables_d (hr.mono (by decide)) (.cons NArgs.nil) rfl (aD (QE.more (aA 0) (by simp)) (aK (m:=false) (rs:=[0])))))
      (aH (aY (jR (fr:=[2,0]) rfl (by rfl) (dD (aA 1)) (show List.Nodup (["fault","good","circuit"]:List Str) from by decide +kernel) (by rfl) (fun _ _ _ _ _ _=>iU) (fun _ _ _ _ _ _=>(bD c_differing (hr.mono (by decide)) (.cons (.cons NArgs.nil)) rfl (aD (QE.more (aA 1) (by simp)) (aD (QE.weak (bD c_out_tables (hr.mono (by decide)) (.cons (.cons NArgs.nil)) rfl (aD (QE.more (aA 2) (by simp)) (aD (QE.more (aA 0) (by simp)) (aK (m:=false) (rs:=[2,0])))))) (aK (m:=false) (rs:=[1]))))))))))
theorem sc_to_hit:aT ["circuit","found","faults","fault","told"] ["circuit"] (aE gL):=⟨rfl,rfl,rfl,by decide +kernel,rfl,by decide +kernel,by decide +kernel⟩
theorem N2   (F:FunD K "to_hit" "to_hit" gL fA fd) (c_all_faults:aN P w K mg base "all_faults" [] 4 1 (fW C)) (c_tellings:aN P w K mg base "tellings" [] 6 2 (hV C)) (z_zip:mg "zip" = none) :
    FnOk P w K mg base CX0 7 fA fd ["circuit"] (spD K 1 (kO C)):=by
  have nd:=sc_to_hit.nd
  refine F.ok sc_to_hit rfl rfl fun cdv A outer s H E hr=>?_
  exact (aF (bC (i:=1) nd rfl (Or.inl rfl) wV)
      (aF (bC (i:=2) nd rfl (Or.inl rfl) (bD c_all_faults (hr.mono (by decide)) (.cons NArgs.nil) rfl (aD (QE.more (aA 0) (by simp)) (aK (m:=false) (rs:=[0])))))
      (aF (cX rfl PassesOwn.never (U9 (rs:=[2]) (by rfl) z_zip (aD (QE.more (aA 2) (by simp)) (aD (QE.weak (bD c_tellings (hr.mono (by decide)) (.cons (.cons NArgs.nil)) rfl (aD (QE.more (aA 0) (by simp)) (aD (QE.more (aA 2) (by simp)) (aK (m:=false) (rs:=[0,2])))))) (aK (m:=false) (rs:=[2]))))) (oJ (is:=[3,4]) rfl (eR (dU (i:=3) nd rfl (Or.inl rfl)) (eR (dU (i:=4) nd rfl (Or.inl rfl)) mN)) rfl) (aH (cN (Z36 (dG hr) (aA 4) (qp aG)) (aH (Z26 (hpe:=Z1G PySem.F.plainAttrs_dict PySem.F.slot_dict_setdefault PySem.F.type_dict_setdefault zU (iK (i:=1) rfl (by first | exact Or.inl rfl | exact Or.inr (Or.inl rfl) | exact Or.inr (Or.inr rfl))) (jS (aA 4) (jS (aA 3) rK))))) bI)))
      (aH (lA (i:=1))))))
theorem sc_givens_in:aT ["marks"] ["marks"] (aE dN):=⟨rfl,rfl,rfl,by decide +kernel,rfl,by decide +kernel,by decide +kernel⟩
theorem vD   (F:FunD K "givens_in" "givens_in" dN fA fd) (z_range:mg "range" = none) :
    FnOk P w K mg base CX0 1 fA fd ["marks"] (spD K 1 (eD C)):=by
  have nd:=sc_givens_in.nd
  refine F.ok sc_givens_in rfl rfl fun cdv A outer s H E hr=>?_
  exact (aH (aY (jR (fr:=[0]) rfl (by rfl) (iX (rs:=[]) (by rfl) z_range (aD (QE.weak (qp (Z0P (aA 0)))) (aK (m:=false) (rs:=[])))) (show List.Nodup (["given","marks"]:List Str) from by decide +kernel) (by rfl) (fun _ _ _ _ _ _=>uT (dX (dG hr) (qp (aX rL (qp (aQ W6 (aA 1) (aA 0))) (qp aG))) (qp aG))) (fun _ _ _ _ _ _=>(QE.flat (aA 0))))))
theorem sc_hits_all:aT ["marks","wanted"] ["marks","wanted"] (aE eM):=⟨rfl,rfl,rfl,by decide +kernel,rfl,by decide +kernel,by decide +kernel⟩
theorem xE   (F:FunD K "hits_all" "hits_all" eM fA fd) (z_all:mg "all" = none) :
    FnOk P w K mg base CX0 1 fA fd ["marks","wanted"] (spD K 2 (fL C)):=by
  have nd:=sc_hits_all.nd
  refine F.ok sc_hits_all rfl rfl fun cdv A outer s H E hr=>?_
  exact (aH (aY (qp (Z2c rfl (by rfl) z_all (V4 (fr:=[0]) 1 rfl (by rfl) rfl (by first | exact Or.inl rfl | exact Or.inr (Or.inl rfl) | exact Or.inr (Or.inr rfl)) (show List.Nodup (["told","marks"]:List Str) from by decide +kernel) (by rfl) (fun _ _ _ _ _ _=>iU) (fun _ _ _ _ _ _=>(qp (Z39 (dG hr) (qp (aX rL (aA 0) (aA 1))) (qp aG)))))))))
theorem sc_thin:aT ["marks","spare","is_enough","kept","given","fewer"] ["marks","spare","is_enough"] (aE kY):=⟨rfl,rfl,rfl,by decide +kernel,rfl,by decide +kernel,by decide +kernel⟩
theorem Z13   (F:FunD K "thin" "thin" kY fA fd) (c_hits_all:aN P w K mg base "hits_all" [] 1 2 (fL C)) :
    Z0o P w K mg base 3 fA fd ["marks","spare","is_enough"] 3 Z0l (oS C):=by
  have nd:=sc_thin.nd
  refine F.okL sc_thin rfl rfl fun a0 dv0 cdv A outer s H E hr hS=>?_
  exact (aF (bC (i:=3) nd rfl (Or.inl rfl) (QE.flat (aA 0)))
      (aF (cX rfl PassesOwn.never (dD (aA 1)) (cY (i:=4) nd rfl (Or.inl rfl)) (aF (bC (i:=5) nd rfl (Or.inl rfl) (qp (aX oN (aA 3) (qp (aQ eZ (qp aG) (aA 4))))))
      (aH (cN (oI (M6 (x := "marks") (k:=1) (i:=2) rfl (Or.inl rfl) rfl hS (hr.mono (by decide)) (aA 5) (fun _ _ _ _ _=>rfl) rfl (by intro n hn;simp at hn;first | (subst hn;rfl) | (rcases hn with rfl | rfl <;> rfl)) (by decide +kernel) rfl rfl rfl (fun _ _ _ _ _ _ _ hr=>(bD c_hits_all (hr.mono (by decide)) (.cons (.cons NArgs.nil)) rfl (aD (QE.more (aA 0) (by simp)) (aD (QE.more (aA 1) (by simp)) (aK (m:=false) (rs:=[0,1])))))))) (aH (bC (i:=3) nd rfl (Or.inl rfl) (QE.flat (aA 5)))) bI))))
      (aH (aY (QE.flat (aA 3))))))
theorem sc_thinned:aT ["circuit","wanted","every"] ["circuit"] (aE dC):=⟨rfl,rfl,rfl,by decide +kernel,rfl,by decide +kernel,by decide +kernel⟩
theorem zN {P:Program}{w:World}{K:Frag}{mg:Str->Option Value}{base:Heap}{C fA P0:Addr}{fd:FuncData}  (F:FunD K "thinned" "thinned" dC fA fd) (c_full_table:aN P w K mg base "full_table" [] 1 1 (bW C)) (c_givens_in:aN P w K mg base "givens_in" [] 1 1 (eD C)) (c_thin:wB P w K mg base "thin" 3 3 Z0l (oS C)) (c_to_hit:aN P w K mg base "to_hit" [] 7 1 (kO C)) (L_lam:LamIn fd base mg P0) (hC:Cls K C) (hA_ins:NoAttr K C "ins") :
    FnOk P w K mg base CX0 8 fA fd ["circuit"] (spT K P0 (lamPos l_lam,q_lam) 1 (kP C)):=by
  have nd:=sc_thinned.nd
  refine F.okT sc_thinned rfl rfl fun cdv A outer s H E hr hcd hT=>?_
  exact (aF (bC (i:=1) nd rfl (Or.inr rfl) (bD c_to_hit (hr.mono (by decide)) (.cons NArgs.nil) rfl (aD (QE.more (aA 0) (by simp)) (aK (m:=false) (rs:=[0])))))
      (aF (bC (i:=2) nd rfl (Or.inl rfl) (bD c_full_table (hr.mono (by decide)) (.cons NArgs.nil) rfl (aD (QE.more (fH hC hA_ins (aA 0)) (by simp)) (aK (m:=false) (rs:=[0])))))
      (aH (aY (bD c_givens_in (hr.mono (by decide)) (.cons NArgs.nil) rfl (aD (QE.weak (zG c_thin (L_lam.at hcd hT rfl) (hr.mono (by decide)) (aA 2) (bD c_givens_in (hr.mono (by decide)) (.cons NArgs.nil) rfl (aD (QE.more (aA 2) (by simp)) (aK (m:=false) (rs:=[2])))) [1] (fun _=>rfl) rfl (by decide +kernel) (by intro n hn;simp at hn;first | (subst hn;rfl) | (rcases hn with rfl | rfl <;> rfl)) (by intro n hn;simp at hn;first | (subst hn;rfl) | (rcases hn with rfl | rfl <;> rfl)) rfl (by intro i n h;match i,h with | 0,h=>(cases h;exact⟨_,rfl,rfl⟩) | 1,h=>(first | (cases h;done) | (cases h;exact⟨_,rfl,rfl⟩)) | i + 2,h=>(simp at h)))) (aK (m:=false) (rs:=[]))))))))
theorem sc_l_whole:aT ["_law_found"] ["_law_found"] (aE fR):=⟨rfl,rfl,rfl,by decide +kernel,rfl,by decide +kernel,by decide +kernel⟩
theorem zP   (F:FunD K "_law_whole" "_law_whole" fR fA fd) (z_bool:mg "bool" = none) (z_int:mg "int" = none) (z_isinstance:mg "isinstance" = none) :
    FnOk P w K mg base CX0 1 fA fd ["_law_found"] (spD K 1 (hX C)):=by
  have nd:=sc_l_whole.nd
  refine F.ok sc_l_whole rfl rfl fun cdv A outer s H E hr=>?_
  exact (aH (aY (qp (Z2b (qp (oK (by rfl) z_isinstance (aA 0) (by rfl) z_int PD.boot_int (Z1a _))) (V2 (qp (Z28 (qp (oK (by rfl) z_isinstance (aA 0) (by rfl) z_bool PD.boot_bool (Z2 _))))))))))
theorem sc_l_mixed:aT ["_law_cell","_law_k","_law_number"] ["_law_cell","_law_k"] (aE fS):=⟨rfl,rfl,rfl,by decide +kernel,rfl,by decide +kernel,by decide +kernel⟩
theorem zQ   (F:FunD K "_law_mixed" "_law_mixed" fS fA fd)  :
    FnOk P w K mg base CX0 1 fA fd ["_law_cell","_law_k"] (spD K 2 (eT C)):=by
  have nd:=sc_l_mixed.nd
  refine F.ok sc_l_mixed rfl rfl fun cdv A outer s H E hr=>?_
  exact (aF (cN (D2 (aA 0) (qp (aQ W7 (qp aG) (qp aG)))) (aH (aY (qp (aQ eV (qp (aQ gS (qp (aX eN (aA 0) (qp (aQ W7 (qp aG) (qp aG))))) (qp (aQ eZ (qp aG) (qp (aQ gB (qp aG) (qp (aQ eV (aA 1) (qp aG))))))))) (qp (aQ eZ (qp aG) (qp aG))))))) bI)
      (aF (bC (i:=2) nd rfl (Or.inl rfl) (qp (aQ eV (qp (aQ gB (qp (aX fY (qp (aX fY (qp (aX fY (qp (aQ gB (aA 0) (aA 0))) (qp (aQ gB (qp aG) (aA 0))))) (qp (aQ gB (qp aG) (aA 1))))) (qp aG))) (qp aG))) (qp aG))))
      (aH (aY (qp (aQ eV (qp (aX fY (qp (aQ gB (aA 2) (aA 2))) (qp aG))) (qp aG)))))))
theorem sc_l_row:aT ["_law_mixed_here","_law_wires","_law_near","_law_one","_law_other","_law_way"] ["_law_mixed_here","_law_wires","_law_near"] (aE iR):=⟨rfl,rfl,rfl,by decide +kernel,rfl,by decide +kernel,by decide +kernel⟩
theorem X3   (F:FunD K "_law_row" "_law_row" iR fA fd) (z_min:mg "min" = none) :
    FnOk P w K mg base CX0 1 fA fd ["_law_mixed_here","_law_wires","_law_near"] (spD K 3 (jV C)):=by
  have nd:=sc_l_row.nd
  refine F.ok sc_l_row rfl rfl fun cdv A outer s H E hr=>?_
  exact (aF (bC (i:=3) nd rfl (Or.inl rfl) (qp (aQ eV (qp (aQ gS (aA 0) (qp aG))) (aA 1))))
      (aF (bC (i:=4) nd rfl (Or.inl rfl) (qp (aQ eV (qp (aQ gS (aA 0) (qp aG))) (aA 1))))
      (aF (cN (QW.qt (jD (oI (aA 2)) (jO (dX (dG hr) (qp (aQ eV (qp (aQ gS (aA 0) (qp aG))) (qp aG))) (qp aG))))) (aH (bC (i:=3) nd rfl (Or.inl rfl) (qp (aX eN (qp (aX eN (aA 1) (qp aG))) (qp (aQ eV (qp (aQ gS (aA 0) (qp aG))) (qp (Z29 rfl (by rfl) z_min (aD (QE.more (aA 1) (by simp)) (aD (QE.weak (qp aG)) (aK (m:=false) (rs:=[1])))))))))))) bI)
      (aF (bC (i:=5) nd rfl (Or.inl rfl) (qp (aQ eV (aA 0) (qp aG))))
      (aF (cN (dX (dG hr) (aA 5) (qp aG)) (aH (aY (jZ (aD (qp cF) (aD (qp (aQ eV (qp (aQ gS (aA 0) (qp aG))) (qp aG))) aK))))) bI)
      (aF (cN (wU (aA 5) (qp aG)) (aH (aY (jZ (aD (qp cF) (aD (QE.flat (aA 3)) aK))))) bI)
      (aH (aY (jZ (aD (QE.flat (bN (QE.weak (rs:=[]) (fG (aD (qp cF) (aD (qp cF) (aD (qp cF) (aD (qp cF) (aD (qp cF) aK))))))) (qp (aQ eV (aA 5) (qp aG))))) (aD (QE.flat (aA 3)) (aD (QE.flat (aA 4)) aK))))))))))))
theorem sc_l_circuit:aT ["_law_cells","_law_ins","_law_most","_law_many","_law_rows","_law_k","_law_cell","_law_mixed_here","_law_last","_law_outs"] ["_law_cells","_law_ins","_law_most","_law_many"] (aE dL):=⟨rfl,rfl,rfl,by decide +kernel,rfl,by decide +kernel,by decide +kernel⟩
theorem vB   (F:FunD K "_law_circuit" "_law_circuit" dL fA fd) (c_l_mixed:aN P w K mg base "_law_mixed" [] 1 2 (eT C)) (c_l_row:aN P w K mg base "_law_row" [] 1 3 (jV C)) (z_enumerate:mg "enumerate" = none) (z_int:mg "int" = none) (z_len:mg "len" = none) (z_range:mg "range" = none) (z_sum:mg "sum" = none) :
    FnOk P w K mg base CX0 2 fA fd ["_law_cells","_law_ins","_law_most","_law_many"] (spD K 4 (fK C)):=by
  have nd:=sc_l_circuit.nd
  refine F.ok sc_l_circuit rfl rfl fun cdv A outer s H E hr=>?_
  exact (aF (bC (i:=4) nd rfl (Or.inl rfl) (fG aK))
      (aF (cX rfl PassesOwn.never (uU (m1:=true) (rs:=[]) (by rfl) z_enumerate (aD (qp (iG (aA 0) jQ (jP (aA 2)))) aK)) (oJ (is:=[5,6]) rfl (eR (dU (i:=5) nd rfl (Or.inl rfl)) (eR (dU (i:=6) nd rfl (Or.inl rfl)) mN)) rfl) (aF (bC (i:=7) nd rfl (Or.inl rfl) (bD c_l_mixed (hr.mono (by decide)) (.cons (.cons NArgs.nil)) rfl (aD (QE.more (aA 6) (by simp)) (aD (QE.more (aA 5) (by simp)) (aK (m:=false) (rs:=[6,5]))))))
      (aH (cN (dX (dG hr) (qp (aX fY (aA 1) (qp (iJ (by rfl) z_len (aA 4))))) (qp aG)) (aH (hU 4 (jZ (aD (qp cF) (aD (qp (aQ eV (aA 7) (qp aG))) aK))))) (aH (hU 4 (bD c_l_row (hr.mono (by decide)) (.cons (.cons (.cons NArgs.nil))) rfl (aD (QE.more (aA 7) (by simp)) (aD (QE.weak (qp (aX fY (aA 1) (qp (iJ (by rfl) z_len (aA 4)))))) (aD (QE.weak (qp (Z3b (dG hr) (qp (aQ eV (aA 6) (qp aG))) (qp aG)))) (aK (m:=false) (rs:=[7]))))))))))))
      (aF (cN (dX (dG hr) (qp (aX fY (aA 1) (qp (iJ (by rfl) z_len (aA 4))))) (qp aG)) (aH (hU 4 (jZ (aD (qp cF) (aD (qp aG) aK))))) bI)
      (aF (bC (i:=8) nd rfl (Or.inl rfl) (qp (aX eN (qp (aX fY (aA 1) (qp (iJ (by rfl) z_len (aA 4))))) (qp aG))))
      (aF (bC (i:=9) nd rfl (Or.inl rfl) (fG aK))
      (aF (cX rfl PassesOwn.never (iX (rs:=[]) (by rfl) z_range (aD (QE.weak (qp (aX fY (aA 3) (qp aG)))) (aK (m:=false) (rs:=[])))) (cY (i:=5) nd rfl (Or.inl rfl)) (aF (bC (i:=7) nd rfl (Or.inl rfl) (bD c_l_mixed (hr.mono (by decide)) (.cons (.cons NArgs.nil)) rfl (aD (QE.weak (qp (aX fY (qp (zF rfl (by rfl) z_sum (qp (iG (aA 0) jQ (jP (qp aG)))))) (qp aG)))) (aD (QE.more (aA 5) (by simp)) (aK (m:=false) (rs:=[5]))))))
      (aH (hU 9 (QE.flat (bN (QE.weak (rs:=[]) (fG (aD (QE.flat (aA 8)) (aD (qp (aQ eV (qp (aQ gS (aA 7) (qp aG))) (qp (aX fY (aA 8) (qp aG))))) aK)))) (qp (Z0M (by rfl) z_int (qp (Z38 (qp (D5 W9 (qp (aQ eV (aA 7) (qp aG))) (qp aG) (jE _))) (V2 (qp (D5 W9 (aA 5) (qp aG) (jE _))))))))))))))
      (aH (Z0K (i:=4) (j:=9) (by decide)))))))))
theorem sc_l_seen:aT ["_law_found","_law_row_here","_law_wire","_law_leg","_law_fault","_law_most"] ["_law_found","_law_row_here","_law_wire","_law_leg","_law_fault","_law_most"] (aE gN):=⟨rfl,rfl,rfl,by decide +kernel,rfl,by decide +kernel,by decide +kernel⟩
theorem N5   (F:FunD K "_law_seen" "_law_seen" gN fA fd)  :
    FnOk P w K mg base CX0 1 fA fd ["_law_found","_law_row_here","_law_wire","_law_leg","_law_fault","_law_most"] (spD K 6 (jG C)):=by
  have nd:=sc_l_seen.nd
  refine F.ok sc_l_seen rfl rfl fun cdv A outer s H E hr=>?_
  exact (aF (cN (QW.qt (jD (qJ (aA 4)) (jO (dX (dG hr) (aA 4) (jZ (aD (QE.weak (qp cF)) (aD (QE.more (aA 2) (by simp)) (aD (QE.more (aA 3) (by simp)) (aD (QE.more (bN (aA 4) (qp uV)) (by simp)) (aK (m:=false) (rs:=[2,3,4]))))))))))) (aH (aY (qp (aQ gB (bN (aA 4) (qp uV)) (aA 5))))) bI)
      (aH (aY (QE.flat (bN (aA 0) (bN (aA 1) (qp (aX fY (qp aG) (aA 3)))))))))
theorem sc_l_column:aT ["_law_found","_law_row_here","_law_wire","_law_fault","_law_most","_law_one","_law_other"] ["_law_found","_law_row_here","_law_wire","_law_fault","_law_most"] (aE eL):=⟨rfl,rfl,rfl,by decide +kernel,rfl,by decide +kernel,by decide +kernel⟩
theorem xD   (F:FunD K "_law_column" "_law_column" eL fA fd) (c_l_seen:aN P w K mg base "_law_seen" [] 1 6 (jG C)) :
    FnOk P w K mg base CX0 2 fA fd ["_law_found","_law_row_here","_law_wire","_law_fault","_law_most"] (spD K 5 (eO C)):=by
  have nd:=sc_l_column.nd
  refine F.ok sc_l_column rfl rfl fun cdv A outer s H E hr=>?_
  exact (aF (cN (dX (dG hr) (bN (aA 1) (qp aG)) (qp cF)) (aH (aY (qp (aQ gB (bN (aA 1) (qp aG)) (aA 4))))) bI)
      (aF (bC (i:=5) nd rfl (Or.inl rfl) (bD c_l_seen (hr.mono (by decide)) (.cons (.cons (.cons (.cons (.cons (.cons NArgs.nil)))))) rfl (aD (QE.more (aA 0) (by simp)) (aD (QE.more (aA 1) (by simp)) (aD (QE.more (aA 2) (by simp)) (aD (QE.weak (qp aG)) (aD (QE.more (aA 3) (by simp)) (aD (QE.more (aA 4) (by simp)) (aK (m:=false) (rs:=[0,1,2,3,4]))))))))))
      (aF (cN (dX (dG hr) (bN (aA 1) (qp aG)) (qp cF)) (aH (aY (qp (aX eN (aA 4) (aA 5))))) bI)
      (aF (bC (i:=6) nd rfl (Or.inl rfl) (bD c_l_seen (hr.mono (by decide)) (.cons (.cons (.cons (.cons (.cons (.cons NArgs.nil)))))) rfl (aD (QE.more (aA 0) (by simp)) (aD (QE.more (aA 1) (by simp)) (aD (QE.more (aA 2) (by simp)) (aD (QE.weak (qp aG)) (aD (QE.more (aA 3) (by simp)) (aD (QE.more (aA 4) (by simp)) (aK (m:=false) (rs:=[0,1,2,3,4]))))))))))
      (aF (cN (dX (dG hr) (bN (aA 1) (qp aG)) (qp cF)) (aH (aY (qp (aX rL (aA 5) (aA 6))))) bI)
      (aF (cN (dX (dG hr) (bN (aA 1) (qp aG)) (qp cF)) (aH (aY (qp (aX wX (aA 5) (aA 6))))) bI)
      (aH (aY (qp (aX oN (aA 5) (aA 6)))))))))))
theorem sc_l_tables:aT ["_law_ins","_law_rows","_law_fault","_law_most","_law_found","_law_wire"] ["_law_ins","_law_rows","_law_fault"] (aE eG):=⟨rfl,rfl,rfl,by decide +kernel,rfl,by decide +kernel,by decide +kernel⟩
theorem xA   (F:FunD K "_law_tables" "_law_tables" eG fA fd) (c_l_column:aN P w K mg base "_law_column" [] 2 5 (eO C)) (z_len:mg "len" = none) (z_range:mg "range" = none) (z_sum:mg "sum" = none) :
    FnOk P w K mg base CX0 3 fA fd ["_law_ins","_law_rows","_law_fault"] (spD K 3 (fI C)):=by
  have nd:=sc_l_tables.nd
  refine F.ok sc_l_tables rfl rfl fun cdv A outer s H E hr=>?_
  exact (aF (bC (i:=3) nd rfl (Or.inl rfl) (qp (aX eN (qp (aQ eZ (qp aG) (qp (aQ eZ (qp aG) (aA 0))))) (qp aG))))
      (aF (bC (i:=4) nd rfl (Or.inl rfl) (fG aK))
      (aF (cX rfl PassesOwn.never (iX (rs:=[]) (by rfl) z_range (aD (QE.weak (qp (aX fY (aA 0) (qp (iJ (by rfl) z_len (aA 1)))))) (aK (m:=false) (rs:=[])))) (cY (i:=5) nd rfl (Or.inr rfl)) (aF (cN (wU (aA 5) (aA 0)) (aH (hU 4 (qp (zF rfl (by rfl) z_sum (jR (fr:=[5]) rfl (by rfl) (iX (rs:=[]) (by rfl) z_range (aD (QE.weak (qp (aQ eZ (qp aG) (aA 0)))) (aK (m:=false) (rs:=[])))) (show List.Nodup (["_law_given","_law_wire"]:List Str) from by decide +kernel) (by rfl) (fun _ _ _ _ _ _=>uT (dX (dG hr) (qp (aQ eV (qp (aQ gS (aA 0) (qp (aQ eZ (qp aG) (aA 1))))) (qp aG))) (qp aG))) (fun _ _ _ _ _ _=>(qp (aQ eZ (qp aG) (aA 0))))))))) (aH (hU 4 (bD c_l_column (hr.mono (by decide)) (.cons (.cons (.cons (.cons (.cons NArgs.nil))))) rfl (aD (QE.more (aA 4) (by simp)) (aD (QE.more (bN (aA 1) (qp (aX eN (aA 5) (aA 0)))) (by simp)) (aD (QE.more (aA 5) (by simp)) (aD (QE.more (aA 2) (by simp)) (aD (QE.more (aA 3) (by simp)) (aK (m:=false) (rs:=[4,1,5,2,3])))))))))))
      (aH (cN (QW.qt (jD (qJ (aA 2)) (jD (dX (dG hr) (bN (aA 2) (qp aG)) (qp cF)) (jO (dX (dG hr) (bN (aA 2) (qp aG)) (aA 5)))))) (aH (D3 4 (aA 5) (qp (aQ gB (bN (aA 2) (qp aG)) (aA 3))))) bI))))
      (aH (lA (i:=4))))))
theorem sc_l_telling:aT ["_law_ins","_law_rows","_law_outs","_law_fault","_law_good","_law_bad","_law_found","_law_wire"] ["_law_ins","_law_rows","_law_outs","_law_fault"] (aE dJ):=⟨rfl,rfl,rfl,by decide +kernel,rfl,by decide +kernel,by decide +kernel⟩
theorem vA   (F:FunD K "_law_telling" "_law_telling" dJ fA fd) (c_l_tables:aN P w K mg base "_law_tables" [] 3 3 (fI C)) :
    FnOk P w K mg base CX0 4 fA fd ["_law_ins","_law_rows","_law_outs","_law_fault"] (spD K 4 (eB C)):=by
  have nd:=sc_l_telling.nd
  refine F.ok sc_l_telling rfl rfl fun cdv A outer s H E hr=>?_
  exact (aF (bC (i:=4) nd rfl (Or.inl rfl) (bD c_l_tables (hr.mono (by decide)) (.cons (.cons (.cons NArgs.nil))) rfl (aD (QE.more (aA 0) (by simp)) (aD (QE.more (aA 1) (by simp)) (aD (QE.weak (qp V3)) (aK (m:=false) (rs:=[0,1])))))))
      (aF (bC (i:=5) nd rfl (Or.inl rfl) (bD c_l_tables (hr.mono (by decide)) (.cons (.cons (.cons NArgs.nil))) rfl (aD (QE.more (aA 0) (by simp)) (aD (QE.more (aA 1) (by simp)) (aD (QE.more (aA 3) (by simp)) (aK (m:=false) (rs:=[0,1,3])))))))
      (aF (bC (i:=6) nd rfl (Or.inl rfl) (qp aG))
      (aF (cX rfl PassesOwn.never (dD (aA 2)) (cY (i:=7) nd rfl (Or.inl rfl)) (aH (bC (i:=6) nd rfl (Or.inl rfl) (qp (aX wX (aA 6) (qp (aX oN (bN (aA 4) (aA 7)) (bN (aA 5) (aA 7)))))))))
      (aH (aY (QE.flat (aA 6))))))))
theorem sc_l_legs:aT ["_law_ins","_law_rows","_law_wire"] ["_law_ins","_law_rows","_law_wire"] (aE gO):=⟨rfl,rfl,rfl,by decide +kernel,rfl,by decide +kernel,by decide +kernel⟩
theorem N6   (F:FunD K "_law_legs" "_law_legs" gO fA fd) (z_list:mg "list" = none) :
    FnOk P w K mg base CX0 1 fA fd ["_law_ins","_law_rows","_law_wire"] (spD K 3 (gU C)):=by
  have nd:=sc_l_legs.nd
  refine F.ok sc_l_legs rfl rfl fun cdv A outer s H E hr=>?_
  exact (aF (cN (QW.qt (U7 (wU (aA 2) (aA 0)) (U6 (dX (dG hr) (bN (bN (aA 1) (qp (aX eN (aA 2) (aA 0)))) (qp aG)) (qp cF))))) (aH (aY (fG aK))) bI)
      (aH (aY (qp (nQ (by rfl) z_list (qp (iG (bN (aA 1) (qp (aX eN (aA 2) (aA 0)))) (jP (qp aG)) jQ)))))))
theorem sc_l_needed:aT ["_law_ins","_law_rows","_law_outs","_law_wanted","_law_wire","_law_at","_law_ahead"] ["_law_ins","_law_rows","_law_outs"] (aE eI):=⟨rfl,rfl,rfl,by decide +kernel,rfl,by decide +kernel,by decide +kernel⟩
theorem xB   (F:FunD K "_law_needed" "_law_needed" eI fA fd) (c_l_legs:aN P w K mg base "_law_legs" [] 1 3 (gU C)) (z_len:mg "len" = none) (z_sorted:mg "sorted" = none) :
    FnOk P w K mg base CX0 2 fA fd ["_law_ins","_law_rows","_law_outs"] (spD K 3 (gC C)):=by
  have nd:=sc_l_needed.nd
  refine F.ok sc_l_needed rfl rfl fun cdv A outer s H E hr=>?_
  exact (aF (bC (i:=3) nd rfl (Or.inl rfl) (fG aK))
      (aF (cX rfl PassesOwn.never (dD (aA 2)) (cY (i:=4) nd rfl (Or.inl rfl)) (aH (cN (wT (Z1B hr) (aA 4) (aA 3)) (aH (hU 3 (QE.flat (aA 4)))) bI)))
      (aF (bC (i:=5) nd rfl (Or.inl rfl) (qp aG))
      (aF (U8 PassesOwn.never (wU (aA 5) (qp (iJ (by rfl) z_len (aA 3)))) (aF (cX rfl PassesOwn.never (dD (m1:=true) (rs:=[]) (bD c_l_legs (hr.mono (by decide)) (.cons (.cons (.cons NArgs.nil))) rfl (aD (QE.more (aA 0) (by simp)) (aD (QE.more (aA 1) (by simp)) (aD (QE.more (bN (aA 3) (aA 5)) (by simp)) (aK (m:=false) (rs:=[0,1,3]))))))) (cY (i:=6) nd rfl (Or.inl rfl)) (aH (cN (wT (Z1B hr) (aA 6) (aA 3)) (aH (hU 3 (QE.flat (aA 6)))) bI)))
      (aH (bC (i:=5) nd rfl (Or.inl rfl) (qp (aX fY (aA 5) (qp aG)))))))
      (aH (aY (qp (M5 (by rfl) z_sorted (aA 3)))))))))
theorem sc_l_bits_at:aT ["_law_ins","_law_rows","_law_wire"] ["_law_ins","_law_rows","_law_wire"] (aE dM):=⟨rfl,rfl,rfl,by decide +kernel,rfl,by decide +kernel,by decide +kernel⟩
theorem vC   (F:FunD K "_law_bits_at" "_law_bits_at" dM fA fd)  :
    FnOk P w K mg base CX0 1 fA fd ["_law_ins","_law_rows","_law_wire"] (spD K 3 (cZ C)):=by
  have nd:=sc_l_bits_at.nd
  refine F.ok sc_l_bits_at rfl rfl fun cdv A outer s H E hr=>?_
  exact (aF (cN (QW.qt (jD (D2 (aA 2) (aA 0)) (jO (dX (dG hr) (bN (bN (aA 1) (qp (aX eN (aA 2) (aA 0)))) (qp aG)) (qp cF))))) (aH (aY (fG (aD (qp (aX eN (qp aG) (bN (bN (aA 1) (qp (aX eN (aA 2) (aA 0)))) (qp aG)))) aK)))) bI)
      (aH (aY (fG (aD (qp aG) (aD (qp aG) aK))))))
theorem sc_l_faults:aT ["_law_ins","_law_rows","_law_outs","_law_found","_law_wire","_law_leg","_law_ahead"] ["_law_ins","_law_rows","_law_outs"] (aE eJ):=⟨rfl,rfl,rfl,by decide +kernel,rfl,by decide +kernel,by decide +kernel⟩
theorem xC   (F:FunD K "_law_faults" "_law_faults" eJ fA fd) (c_l_bits_at:aN P w K mg base "_law_bits_at" [] 1 3 (cZ C)) (c_l_legs:aN P w K mg base "_law_legs" [] 1 3 (gU C)) (c_l_needed:aN P w K mg base "_law_needed" [] 2 3 (gC C)) (z_enumerate:mg "enumerate" = none) :
    FnOk P w K mg base CX0 3 fA fd ["_law_ins","_law_rows","_law_outs"] (spD K 3 (fJ C)):=by
  have nd:=sc_l_faults.nd
  refine F.ok sc_l_faults rfl rfl fun cdv A outer s H E hr=>?_
  exact (aF (bC (i:=3) nd rfl (Or.inl rfl) (fG aK))
      (aF (cX rfl PassesOwn.never (dD (m1:=true) (rs:=[]) (bD c_l_needed (hr.mono (by decide)) (.cons (.cons (.cons NArgs.nil))) rfl (aD (QE.more (aA 0) (by simp)) (aD (QE.more (aA 1) (by simp)) (aD (QE.more (aA 2) (by simp)) (aK (m:=false) (rs:=[0,1,2]))))))) (cY (i:=4) nd rfl (Or.inr rfl)) (aF (tQ 3 3 nd rfl (Or.inl rfl) (jR (fr:=[4]) rfl (by rfl) (dD (m1:=true) (rs:=[]) (bD c_l_bits_at (hr.mono (by decide)) (.cons (.cons (.cons NArgs.nil))) rfl (aD (QE.more (aA 0) (by simp)) (aD (QE.more (aA 1) (by simp)) (aD (QE.more (aA 4) (by simp)) (aK (m:=false) (rs:=[0,1,4]))))))) (show List.Nodup (["_law_bit","_law_wire"]:List Str) from by decide +kernel) (by rfl) (fun _ _ _ _ _ _=>iU) (fun _ _ _ _ _ _=>(jZ (aD (qp cF) (aD (QE.flat (aA 1)) (aD (QE.flat (aA 0)) aK)))))))
      (aH (cX rfl PassesOwn.never (uU (m1:=true) (rs:=[]) (by rfl) z_enumerate (aD (bD c_l_legs (hr.mono (by decide)) (.cons (.cons (.cons NArgs.nil))) rfl (aD (QE.more (aA 0) (by simp)) (aD (QE.more (aA 1) (by simp)) (aD (QE.more (aA 4) (by simp)) (aK (m:=false) (rs:=[0,1,4])))))) aK)) (oJ (is:=[5,6]) rfl (eR (dU (i:=5) nd rfl (Or.inr rfl)) (eR (dU (i:=6) nd rfl (Or.inl rfl)) mN)) rfl) (aH (tQ 3 3 nd rfl (Or.inl rfl) (jR (fr:=[4,5]) rfl (by rfl) (dD (m1:=true) (rs:=[]) (bD c_l_bits_at (hr.mono (by decide)) (.cons (.cons (.cons NArgs.nil))) rfl (aD (QE.more (aA 0) (by simp)) (aD (QE.more (aA 1) (by simp)) (aD (QE.more (aA 6) (by simp)) (aK (m:=false) (rs:=[0,1,6]))))))) (show List.Nodup (["_law_bit","_law_wire","_law_leg"]:List Str) from by decide +kernel) (by rfl) (fun _ _ _ _ _ _=>iU) (fun _ _ _ _ _ _=>(jZ (aD (qp cF) (aD (QE.flat (aA 1)) (aD (QE.flat (aA 2)) (aD (QE.flat (aA 0)) aK)))))))))))))
      (aH (lA (i:=3)))))
theorem sc_l_all:aT ["_law_masks","_law_tests","_law_mask"] ["_law_masks","_law_tests"] (aE iS):=⟨rfl,rfl,rfl,by decide +kernel,rfl,by decide +kernel,by decide +kernel⟩
theorem X4   (F:FunD K "_law_all" "_law_all" iS fA fd) (z_len:mg "len" = none) :
    FnOk P w K mg base CX0 1 fA fd ["_law_masks","_law_tests"] (spD K 2 (iV C)):=by
  have nd:=sc_l_all.nd
  refine F.ok sc_l_all rfl rfl fun cdv A outer s H E hr=>?_
  exact (aF (cX rfl PassesOwn.never (dD (aA 0)) (cY (i:=2) nd rfl (Or.inr rfl)) (aH (cN (QW.qt (jD (Z1F (aA 2) (qp aG)) (jO (dX (dG hr) (qp (iJ (by rfl) z_len (jR (fr:=[2]) rfl (by rfl) (dD (aA 1)) (show List.Nodup (["_law_given","_law_mask"]:List Str) from by decide +kernel) (by rfl) (fun _ _ _ _ _ _=>uT (dX (dG hr) (qp (aX rL (qp (aQ W6 (aA 1) (aA 0))) (qp aG))) (qp aG))) (fun _ _ _ _ _ _=>(QE.flat (aA 0)))))) (qp aG))))) (aH (aY (qp nR))) bI)))
      (aH (aY (qp nR))))
theorem sc_law:aT ["_law_script","_law_cells","_law_first","_law_ins","_law_rows","_law_outs","_law_found","_law_last","_law_given","_law_masks","_law_k"] ["_law_script"] (aE lL):=⟨rfl,rfl,rfl,by decide +kernel,rfl,by decide +kernel,by decide +kernel⟩
theorem Z2s {P:Program}{w:World}{K:Frag}{mg:Str->Option Value}{base:Heap}{C fA P0:Addr}{fd:FuncData}  (F:FunD K "law" "law" lL fA fd) (c_l_all:aN P w K mg base "_law_all" [] 1 2 (iV C)) (c_l_circuit:aN P w K mg base "_law_circuit" [] 2 4 (fK C)) (c_l_faults:aN P w K mg base "_law_faults" [] 3 3 (fJ C)) (c_l_telling:aN P w K mg base "_law_telling" [] 4 4 (eB C)) (c_l_whole:aN P w K mg base "_law_whole" [] 1 1 (hX C)) (c_thinned:wA P w K mg base "thinned" P0 (lamPos l_lam,q_lam) 8 1 (kP C)) (mk_Circuit:Z0n P w K mg base "Circuit" C 1 3 (gG C)) (z_isinstance:mg "isinstance" = none) (z_len:mg "len" = none) (z_list:mg "list" = none) (z_range:mg "range" = none) (z_sum:mg "sum" = none) :
    FnOk P w K mg base CX0 9 fA fd ["_law_script"] (spT K P0 (lamPos l_lam,q_lam) 1 (Y1 C)):=by
  have nd:=sc_law.nd
  refine F.okT sc_law rfl rfl fun cdv A outer s H E hr hcd hT=>?_
  exact (aF (bC (i:=1) nd rfl (Or.inl rfl) (qp (iG (aA 0) jQ (jP (qp aG)))))
      (aF (bC (i:=2) nd rfl (Or.inl rfl) (qp aG))
      (aF (cN (Z1F (qp (iJ (by rfl) z_len (aA 1))) (qp aG)) (aH (bC (i:=2) nd rfl (Or.inl rfl) (qp (zF rfl (by rfl) z_sum (qp (iG (aA 0) jQ (jP (qp aG)))))))) bI)
      (aF (bC (i:=3) nd rfl (Or.inr rfl) (qp (aQ eV (aA 2) (qp aG))))
      (aF (Z0I (m:=true) (rs:=[]) (bD c_l_circuit (hr.mono (by decide)) (.cons (.cons (.cons (.cons NArgs.nil)))) rfl (aD (QE.more (aA 1) (by simp)) (aD (QE.more (aA 3) (by simp)) (aD (QE.weak (qp aG)) (aD (QE.weak (qp (aQ eV (qp (aQ gS (aA 2) (qp aG))) (qp aG)))) (aK (m:=false) (rs:=[1,3]))))))) (oJ (is:=[4,5]) rfl (eR (dU (i:=4) nd rfl (Or.inr rfl)) (eR (dU (i:=5) nd rfl (Or.inr rfl)) mN)) rfl))
      (aF (bC (i:=6) nd rfl (Or.inl rfl) (Z0O c_thinned hT (hr.mono (by decide)) (.cons NArgs.nil) (aD (QE.weak (Z3a mk_Circuit (hr.mono (by decide)) (.cons (.cons (.cons NArgs.nil))) (aD (QE.more (aA 3) (by simp)) (aD (QE.weak (qp (nQ (by rfl) z_list (aA 4)))) (aD (QE.weak (qp (nQ (by rfl) z_list (aA 5)))) (aK (m:=false) (rs:=[3]))))))) (aK (m:=false) (rs:=[])))))
      (aF (cN (zE (oI (qp (oK (by rfl) z_isinstance (aA 6) (by rfl) z_list PD.boot_list (Z1 _))))) (aH (aY (qp nR))) bI)
      (aF (bC (i:=7) nd rfl (Or.inl rfl) (qp uV))
      (aF (cX rfl PassesOwn.never (dD (aA 6)) (cY (i:=8) nd rfl (Or.inl rfl)) (aF (cN (QW.qt (U7 (zE (oI (bD c_l_whole (hr.mono (by decide)) (.cons NArgs.nil) rfl (aD (QE.more (aA 8) (by simp)) (aK (m:=false) (rs:=[8])))))) (U7 (Z37 (aA 8) (aA 7)) (U6 (D2 (aA 8) (qp (aQ eZ (qp aG) (aA 3)))))))) (aH (aY (qp nR))) bI)
      (aH (Z0J (i:=7) nd rfl (Or.inl rfl) (aA 8)))))
      (aF (nD (i:=9) (fr:=[3,4,5]) rfl nd rfl (Or.inl rfl) (by rfl) (dD (m1:=true) (rs:=[]) (bD c_l_faults (hr.mono (by decide)) (.cons (.cons (.cons NArgs.nil))) rfl (aD (QE.more (aA 3) (by simp)) (aD (QE.more (aA 4) (by simp)) (aD (QE.more (aA 5) (by simp)) (aK (m:=false) (rs:=[3,4,5]))))))) (show List.Nodup (["_law_fault","_law_ins","_law_rows","_law_outs"]:List Str) from by decide +kernel) (by rfl) (fun _ _ _ _ _ _=>iU) (fun _ _ _ _ _ _=>(bD c_l_telling (hr.mono (by decide)) (.cons (.cons (.cons (.cons NArgs.nil)))) rfl (aD (QE.more (aA 1) (by simp)) (aD (QE.more (aA 2) (by simp)) (aD (QE.more (aA 3) (by simp)) (aD (QE.more (aA 0) (by simp)) (aK (m:=false) (rs:=[1,2,3,0])))))))))
      (aF (cN (zE (oI (bD c_l_all (hr.mono (by decide)) (.cons (.cons NArgs.nil)) rfl (aD (QE.more (aA 9) (by simp)) (aD (QE.more (aA 6) (by simp)) (aK (m:=false) (rs:=[9,6]))))))) (aH (aY (qp nR))) bI)
      (aF (cX rfl PassesOwn.never (iX (rs:=[]) (by rfl) z_range (aD (QE.weak (qp (iJ (by rfl) z_len (aA 6)))) (aK (m:=false) (rs:=[])))) (cY (i:=10) nd rfl (Or.inl rfl)) (aH (cN (oI (bD c_l_all (hr.mono (by decide)) (.cons (.cons NArgs.nil)) rfl (aD (QE.more (aA 9) (by simp)) (aD (QE.weak (Z2a (qp (iG (aA 6) jQ (jP (aA 10)))) (qp (iG (aA 6) (jP (qp (aX fY (aA 10) (qp aG)))) jQ)))) (aK (m:=false) (rs:=[9])))))) (aH (aY (qp nR))) bI)))
      (aH (aY (qp nR)))))))))))))))
end
local macro_rules | `(tactic| walk_at "ev") => do
  let ns:=("runF enStart List.map_cons List.map_nil List.length_cons List.length_nil List.cons_append List.nil_append List.append_nil List.replicate Nat.reduceAdd Nat.reduceSub Nat.reduceLeDiff PD.fz PD.fz1 ev_var ev_C ev_Flat ev_B ev_OfB ev_And ev_Or ev_Not ev_Nil ev_Cons ev_Tup ev_Lst ev_BI ev_IsN ev_Eq ev_Ix ev_I2' ev_I0' ev_Call ev_B1 ev_IsT ev_NoP ev_P ev_Sl ev_In ev_Bits ev_InK keyOf ev_seq ev_TT ev_cat ev_rNext ev_rIf ev_rRet ev_rSet ev_rSeq List.getElem?_cons_zero List.getElem?_cons_succ List.set_cons_zero List.set_cons_succ Option.join_some Option.map_some Option.bind_some PD.flat Bool.not_true Bool.not_false if_true if_false eqN_int eqN_str eqN_bl eqN_non eqN_tnon atI_m3 atI_m4 atI_0 atI_1 atI_2 atI_3 decide_true decide_false eq_self and_self Bool.and_true Bool.and_false Bool.true_and Bool.false_and eqN_tup eqL_cons eqL_nil eqL_nilL reduceIte reduceCtorEq Int.reduceEq Int.reduceAdd Int.reduceSub Int.reduceLT Int.reduceLE Int.reduceNeg Nat.reduceEqDiff Nat.reduceBEq Bool.false_eq_true".splitOn " ").toArray.map fun s=>Lean.mkIdent s.toName
  `(tactic| simp only [$[$ns:ident],*, *])
theorem Z17 {C:Addr}{ins:Int}{rows:List Row}{outs:List Int}(hl:rows.length <= 1000):gG C [.int ins,.lst (rows.map Row.d),LI outs]=some (bQ C ins rows outs):=by
  have e1:dB [] (dP (aB 2)) fTT (fB1 vX (aC (aB 0) aL)) [none,some (false,.int ins),some (false,.lst (rows.map Row.d)),some (false,LI outs)]=some (.lst (rows.map Row.d)) :=
    gJ Row.d Row.d (xs:=rows) rfl hl fun r _=>by cases r <;> rfl
  have e2:gZ [.lst (outs.map D.int)]=some (.lst (outs.map D.int)):=by simp only [gZ,gI,if_true]
  unfold gG
  simp only [e1]
  simp only [LI,bQ]
  walk_at "ev"
theorem on_wire {C:Addr}{v w o:Int}{f:Flt}(h:-(2 ^ 64) < o /\ o < 2 ^ 64 \/ ∀ w b,f=.wire w b->b=0 \/ b=1):dH C [.int v,.int w,.int o,f.d]=some (.int (bK v w o f)):=by
  cases f with
  | none=>simp [dH,runF,enStart,kR,Flt.d,PD.flat,bK]
  | wire w' b =>
    by_cases hw:w'=w
    . have hm:IntMulOk o b:=h.elim (fun z=>jU z.1 z.2) fun z=>by rcases z w' b rfl with z | z <;> (subst z;exact vF (by decide) (by decide))
      simp [dH,runF,enStart,kR,Flt.d,PD.flat,bK,atI_0,atI_1,atI_2,eqN_str,eqN_int,hw,hm]
    . simp [dH,runF,enStart,kR,Flt.d,PD.flat,bK,atI_0,atI_1,atI_2,eqN_str,eqN_int,hw]
  | leg w' l b =>
    simp [dH,runF,enStart,kR,Flt.d,PD.flat,bK,atI_0,atI_1,atI_2,eqN_str,eqN_int,Z2V]
theorem leg_wires {C:Addr}(r:Row):cH C [r.d]=some (LI r.ws):=by
  cases r with
  | fix b=>simp [cH,runF,enStart,jX,atI_0,eqN_str,Row.d,LI,Row.ws]
  | not a=>simp [cH,runF,enStart,jX,atI_0,eqN_str,Row.d,LI,Row.ws,L3,fSl,flats,PD.flat,Z1p,T6,gZ]
  | bin k a b=>simp [cH,runF,enStart,jX,atI_0,eqN_str,Row.d,LI,Row.ws,L4,fSl,flats,PD.flat,Z1p,T6,gZ]
theorem Q1 {vs:List Int}(env:En) (he:env=[some (false,LI vs)]) (ws:List Int) (h:∀ a ∈ ws,0 <= a /\ a < vs.length):dQ fTT (aW (fIx (aB 1) (aB 0))) env (ws.map D.int)=some ((ws.map (nth vs)).map D.int):=by
  subst he
  rw [pI D.int (fun a=>.int (nth vs a)) ws fun a ha=>by simp [LI,jJ (h a ha).1 (h a ha).2,PD.flat]]
  simp [Function.comp_def]
theorem leg_values {C:Addr}{r:Row}{w o:Int}{vs:List Int}{f:Flt}(hw:∀ a ∈ r.ws,0 <= a /\ a < vs.length) (hl:∀ w' l b,f=.leg w' l b->w'=w->0 <= l /\ l < r.ws.length) (hm:∀ w' l b,f=.leg w' l b->IntMulOk o b) :
    cG C [r.d,.int w,LI vs,.int o,f.d]=some (LI (legs r w vs o f)):=by
  have hlen:r.ws.length <= 1000:=by cases r <;> simp [Row.ws]
  have e1:∀ x:D,dB [2] (dP (aP (cH C) [] (aC (aB 0) aL))) fTT (aW (fIx (aB 1) (aB 0))) [some (false,r.d),some (false,.int w),some (false,LI vs),some (false,.int o),some (false,x),none]=some (LI (r.ws.map (nth vs))):=by
    intro x
    simp only [dB,dP,aP,aC,aB,aL,List.getElem?_cons_zero,Option.join_some,Option.map_some,Option.bind_some,List.append_nil,leg_wires,LI,List.length_map,hlen,if_true]
    rw [Q1 (vs:=vs) (qE [2] _) (by simp [qE,LI]) r.ws hw]
    rfl
  cases f with
  | none=>simp [cG,runF,enStart,gX,e1,Flt.d,lW,legs]
  | wire w' b=>simp [cG,runF,enStart,gX,e1,Flt.d,lW,legs,atI_0,eqN_str,Z2U]
  | leg w' l b =>
    by_cases hww:w'=w
    . subst hww
      obtain⟨l0,l1⟩:=hl _ l b rfl rfl
      have hmm:=hm _ l b rfl
      simp only [LI] at e1
      have hfl:flats (List.map (D.int ∘ nth vs) r.ws)=true:=by have:=gI (r.ws.map (nth vs));simpa using this
      simp [cG,runF,enStart,gX,e1,Flt.d,lW,legs,atI_0,atI_1,atI_2,atI_3,eqN_str,eqN_int,wR,hmm,LI,Z4 l0 (by simpa using l1),hfl,PD.flat,List.map_set]
    . simp [cG,runF,enStart,gX,e1,Flt.d,lW,legs,atI_0,atI_1,atI_2,eqN_str,eqN_int,hww]
theorem gate_value {C:Addr}{r:Row}{ls:List Int}{o:Int}(hl:ls.length=r.ws.length) (hm:∀ b,r=.fix b->IntMulOk o b):cM C [r.d,LI ls,.int o]=some (.int (iA r ls o)):=by
  cases r with
  | fix b =>
    have:=hm b rfl
    simp [cM,runF,enStart,iW,Row.d,atI_0,atI_1,PD.flat,eqN_str,this,iA]
  | not a =>
    have h0:atI (ls.map D.int) 0=some (.int (nth ls 0)):=jJ (by decide) (by simp [Row.ws] at hl;omega)
    simp [cM,runF,enStart,iW,Row.d,atI_0,atI_1,PD.flat,eqN_str,iA,L3,LI,h0]
  | bin k a b =>
    have h0:atI (ls.map D.int) 0=some (.int (nth ls 0)):=jJ (by decide) (by simp [Row.ws] at hl;omega)
    have h1:atI (ls.map D.int) 1=some (.int (nth ls 1)):=jJ (by decide) (by simp [Row.ws] at hl;omega)
    cases k <;> simp [cM,runF,enStart,iW,Row.d,atI_0,atI_1,PD.flat,eqN_str,iA,L4,Z2X,Z2Y,Z2W,LI,h0,h1]
theorem borne {C:Addr}{ins o:Int}{rows:List Row}{outs ss:List Int}{f:Flt}(hs:ss.length + rows.length <= 1000) (hr:RowsOk ss.length rows) (hf:FltOk ss.length rows f) :
    mO C [bQ C ins rows outs,LI ss,.int o,f.d]=some (LI (dR o f (bM o f [] ss) rows)):=by
  have ow:∀ v w,dH C [.int v,.int w,.int o,f.d]=some (.int (bK v w o f)):=fun v w=>on_wire (.inr hf.w)
  refine bZ ?_
  unfold E9
  refine kK (d:=.lst []) (by walk_at "ev") ?_
  refine lM (ds:=ss.map D.int) (by walk_at "ev";rfl) (fun i env=>∃ s,env=[some (false,bQ C ins rows outs),some (false,LI ss),some (false,.int o),some (false,f.d),some (true,LI (bM o f [] (ss.take i))),s,none,none,none]) ⟨none,rfl⟩ ?_ ?_
  . rintro i d env hd ⟨s,rfl⟩
    obtain⟨x,hx,rfl⟩:=cR hd
    refine⟨_,_,rfl,?_,some (false,.int x),rfl⟩
    have hi:i < ss.length:=(List.getElem?_eq_some_iff.mp hx).1
    have hl:(bM o f [] (ss.take i)).length <= 1000:=by rw [gE];simp;omega
    rw [cB hx,kX]
    simp [gQ,fN,LI,ow,hl,List.map_append]
  rintro env ⟨s1,rfl⟩
  rw [List.length_map,List.take_length]
  refine lM (eS (nX (by rfl))) (fun i env=>∃ s a b c,env=[some (false,bQ C ins rows outs),some (false,LI ss),some (false,.int o),some (false,f.d),some (true,LI (dR o f (bM o f [] ss) (rows.take i))),s,a,b,c]) ⟨s1,none,none,none,rfl⟩ ?_ ?_
  . rintro i d env hd ⟨s,a,b,c,rfl⟩
    obtain⟨r,hx,rfl⟩:=cR hd
    have hi:i < rows.length:=(List.getElem?_eq_some_iff.mp hx).1
    have hvl:(dR o f (bM o f [] ss) (rows.take i)).length=ss.length + i:=by rw [oH,gE];simp;omega
    generalize hvs:dR o f (bM o f [] ss) (rows.take i)=vs at hvl
    have hrow:=hr i r hx
    have lv:cG C [r.d,.int (vs.length:Int),LI vs,.int o,f.d]=some (LI (legs r vs.length vs o f)) :=
      leg_values (fun a ha=>by rw [hvl];exact hrow.ws a ha) (fun w' l b e hw=>hf.leg w' l b i r e hx (by rw [hw,hvl])) (fun w' l b e=>J6 (hf.l w' l b e))
    have gv:cM C [r.d,LI (legs r vs.length vs o f),.int o]=some (.int (iA r (legs r vs.length vs o f) o)):=gate_value (Y2 _ _ _ _ _) (fun b e=>J6 (by subst e;exact hrow))
    refine⟨_,_,rfl,?_,s,some (false,r.d),some (true,.int vs.length),some (true,LI (legs r vs.length vs o f)),rfl⟩
    have hl:vs.length <= 1000:=by omega
    rw [cB hx,nC,hvs]
    simp only [LI] at lv gv
    simp [gQ,fN,LI,ow,hl,List.map_append,lv,gv]
  rintro env ⟨s2,a2,b2,c2,rfl⟩
  rw [List.length_map,List.take_length]
  rfl
theorem at_outs {C:Addr}{ins:Int}{rows:List Row}{outs vs:List Int}(ho:outs.length <= 1000) (h:∀ a ∈ outs,0 <= a /\ a < vs.length):iY C [bQ C ins rows outs,LI vs]=some (LI (outs.map (nth vs))):=by
  refine bZ ?_
  show bU _ [some (false,bQ C ins rows outs),some (false,LI vs)]=_
  unfold bU
  rw [gJ D.int (fun a=>.int (nth vs a)) (xs:=outs) (eS (xW (by rfl))) ho (fun a ha=>by simp [qE,LI,jJ (h a ha).1 (h a ha).2,PD.flat])]
  simp [LI,Function.comp_def]
theorem kJ (n:Nat):(1:Int) * 2 ^ (n:Int).toNat=((2 ^ n:Nat):Int):=by rw [Int.one_mul,Int.toNat_natCast];simp
theorem I0 (n:Nat):(1:Int) * 2 ^ ((2 ^ n:Nat):Int).toNat - 1=aS (2 ^ n):=by rw [Int.one_mul,Int.toNat_natCast];rfl
theorem uW {n:Nat}(h:n <= 8):(0:Int) <= ((2 ^ n:Nat):Int) /\ ((2 ^ n:Nat):Int) <= 256 :=
  ⟨Int.natCast_nonneg _,Int.ofNat_le.mpr (show 2 ^ n <= 256 from Nat.pow_le_pow_right (show 0 < 2 by decide) h)⟩
theorem full_table {C:Addr}{n:Nat}(h:n <= 8):bW C [.int n]=some (.int (aS (2 ^ n))):=by
  obtain⟨pb0,pb1⟩:=uW h
  have p1:dS 1 (n:Int):=mJ (by omega) (by omega)
  have p2:dS 1 ((2 ^ n:Nat):Int):=mJ pb0 (Int.le_trans pb1 (by decide))
  have e1:=kJ n
  have e2:=I0 n
  unfold bW nV
  clear pb0 pb1 h
  walk_at "ev"
theorem yH (n:Nat) (b:Nat->Bool):Builtin.Int.intBits (tab n b) <= n:=by
  rw [PySem.intBits_le_iff]
  unfold tab
  have:=gK n b
  simpa using this
theorem R0 (n:Nat):Builtin.Int.intBits (aS n) <= n:=by rw [<- lU];exact yH n _
theorem input_tables {C:Addr}{n:Nat}(h:n <= 8):dY C [.int n]=some (LI (inT n)):=by
  refine bZ ?_
  unfold mF
  refine kK (d:=.lst []) (by walk_at "ev") ?_
  refine lM (ds:=(List.range n).map fun (k:Nat)=>.int (k:Int)) (iI (xs:=[.int (n:Int)]) (by walk_at "ev") (U0 (by omega)))
    (fun i env=>∃ a b,env=[some (false,.int n),some (true,LI (inT i)),a,b]) ⟨none,none,rfl⟩ ?_ ?_
  . rintro i d env hd ⟨a,b,rfl⟩
    obtain⟨hi,rfl⟩:=kM hd
    obtain⟨pb0,pb1⟩:=uW (show i <= 8 by omega)
    have pb2:∀ m:Nat,m=2 ^ i->(m:Int) + ((2 ^ i:Nat):Int) <= 100000000:=fun m e=>by subst e;exact Int.le_trans (Int.add_le_add pb1 pb1) (by decide)
    have p1:dS 1 (i:Int):=mJ (by omega) (by omega)
    have e1:=kJ i
    have ft:=full_table (C:=C) (n:=i) (by omega)
    refine⟨_,_,rfl,?_,some (false,.int i),some (true,.int ((2 ^ i:Nat):Int)),rfl⟩
    refine kK (d:=.int ((2 ^ i:Nat):Int)) (by clear pb0 pb1 pb2;walk_at "ev") ?_
    refine kK (gJ D.int (fun t=>.int (Builtin.bitOr t (t * 2 ^ (2 ^ i)))) (xs:=inT i) (by rfl) (by rw [gW];omega) (fun t ht=>?_)) ?_
    . obtain⟨j,hj⟩:=List.getElem?_of_mem ht
      have hj2:j < i:=by have:=(List.getElem?_eq_some_iff.mp hj).1;rwa [gW] at this
      rw [qL i j hj2] at hj
      have p3:dS t ((2 ^ i:Nat):Int):=by
        rw [<- Option.some.inj hj]
        exact vP (yH _ _) pb0 (pb2 _ rfl)
      show fI0 _ (aB 0) _ [some (false,.int t),some (true,.int ((2 ^ i:Nat):Int))]=_
      clear pb0 pb1 pb2 hj
      walk_at "ev"
      rw [Int.toNat_natCast]
    . have p4:dS (aS (2 ^ i)) ((2 ^ i:Nat):Int):=vP (R0 _) pb0 (pb2 _ rfl)
      refine (jN (d:=.int (aS (2 ^ i) * 2 ^ (2 ^ i))) ?_ rfl (by rw [List.length_map,gW];omega)).trans ?_
      . clear pb0 pb1 pb2
        walk_at "ev"
        rw [Int.toNat_natCast]
      . simp only [inT,LI,List.map_append,List.map_map,List.map_cons,List.map_nil]
        rfl
  . rintro env ⟨a,b,rfl⟩
    rw [List.length_map,List.length_range]
    rfl
theorem K5 {C:Addr}{ins:Nat}{rows:List Row}{outs:List Int}{f:Flt}(hi:ins <= 8) (hs:ins + rows.length <= 1000) (hr:RowsOk ins rows) (hf:FltOk ins rows f) :
    jF C [bQ C ins rows outs,f.d]=some (LI (bA ins rows f)):=by
  have gl:=gW ins
  have b:=borne (C:=C) (ins:=ins) (o:=aS (2 ^ ins)) (rows:=rows) (outs:=outs) (ss:=inT ins) (f:=f) (by rw [gl];exact hs) (by rw [gl];exact hr) (by rw [gl];exact hf)
  have it:=input_tables (C:=C) hi
  have ft:=full_table (C:=C) hi
  refine bZ (fV (aZ (xs:=[bQ C ins rows outs,LI (inT ins),.int (aS (2 ^ ins)),f.d]) ?_ b))
  refine bG rfl (bG (aZ (xs:=[.int ins]) (bG (mS (by rfl)) rfl) it) (bG (aZ (xs:=[.int ins]) (bG (mS (by rfl)) rfl) ft) (bG rfl rfl)))
theorem mY {C:Addr}{ins:Nat}{rows:List Row}{outs:List Int}{f:Flt}(hi:ins <= 8) (hs:ins + rows.length <= 1000) (hr:RowsOk ins rows) (hf:FltOk ins rows f) (hl:outs.length <= 1000) (ho:∀ a ∈ outs,0 <= a /\ a < ((ins + rows.length:Nat):Int)) :
    cL C [bQ C ins rows outs,f.d]=some (LI (outs.map (nth (bA ins rows f)))):=by
  have e1:=K5 (C:=C) (outs:=outs) hi hs hr hf
  have e2:=at_outs (C:=C) (ins:=ins) (rows:=rows) (outs:=outs) (vs:=bA ins rows f) hl (fun a ha=>by rw [iE];exact ho a ha)
  exact bZ (fV (aZ (xs:=[bQ C ins rows outs,LI (bA ins rows f)]) (bG rfl (bG (aZ (xs:=[bQ C ins rows outs,f.d]) rfl e1) rfl)) e2))
theorem tG {A B:List Int}:∀ (outs:List Int),mT ((outs.map (nth A)).map D.int) ((outs.map (nth B)).map D.int)=outs.map fun a=>.tup [.int (nth A a),.int (nth B a)]
  | []=>rfl
  | a :: outs=>by simp only [List.map_cons,mT];rw [tG outs]
theorem vN {C:Addr}{A B outs:List Int}:gF C [LI (outs.map (nth A)),LI (outs.map (nth B))]=some (.int (nO A B outs)):=by
  refine bZ ?_
  unfold pX
  refine kK (d:=.int 0) (by walk_at "ev") ?_
  refine lM (ds:=outs.map fun a=>.tup [.int (nth A a),.int (nth B a)]) (iI (xs:=[LI (outs.map (nth A)),LI (outs.map (nth B))]) rfl (by simp only [R6,LI,tG]))
    (fun i env=>∃ a b,env=[some (false,LI (outs.map (nth A))),some (false,LI (outs.map (nth B))),some (true,.int (nO A B (outs.take i))),a,b]) ⟨none,none,rfl⟩ ?_ ?_
  . rintro i d env hd ⟨a,b,rfl⟩
    obtain⟨x,hx,rfl⟩:=cR hd
    refine⟨_,_,rfl,?_,some (false,.int (nth A x)),some (false,.int (nth B x)),rfl⟩
    rw [qW hx]
    rfl
  . rintro env ⟨a,b,rfl⟩
    rw [List.length_map,List.take_length]
    rfl
noncomputable def fF (ins:Nat) (rows:List Row) (outs:List Int) (f:Flt):Int:=nO (bA ins rows .none) (bA ins rows f) outs
theorem wG {C:Addr}{ins:Nat}{rows:List Row}{outs:List Int}{fs:List Flt}(hi:ins <= 8) (hs:ins + rows.length <= 1000) (hr:RowsOk ins rows) (hf:∀ f ∈ fs,FltOk ins rows f) (hl:outs.length <= 1000) (ho:∀ a ∈ outs,0 <= a /\ a < ((ins + rows.length:Nat):Int)) (hfl:fs.length <= 1000) :
    hV C [bQ C ins rows outs,.lst (fs.map Flt.d)]=some (LI (fs.map (fF ins rows outs))):=by
  have o0:cL C [bQ C ins rows outs,.non]=some (LI (outs.map (nth (bA ins rows .none)))):=mY (f:=.none) hi hs hr .no hl ho
  refine bZ ?_
  unfold rX
  refine kK (aZ (xs:=[bQ C ins rows outs]) rfl o0) ?_
  refine fV ?_
  rw [gJ Flt.d (fun f=>.int (fF ins rows outs f)) (xs:=fs) (by rfl) hfl (fun f hf'=>?_)]
  . simp [LI,Function.comp_def]
  . have of:=mY (C:=C) (outs:=outs) hi hs hr (hf f hf') hl ho
    exact aZ (xs:=[LI (outs.map (nth (bA ins rows .none))),LI (outs.map (nth (bA ins rows f)))]) (bG rfl (bG (aZ (xs:=[bQ C ins rows outs,f.d]) rfl of) rfl)) vN
theorem mW {C:Addr}{ins:Nat}{rows:List Row}{outs:List Int}{w:Int}(h1:w < ((ins + rows.length:Nat):Int)):bV C [bQ C ins rows outs,.int w]=some (LI (bF ins rows w)):=by
  have fi:=mS (C:=C) (ins:=ins) (rows:=rows) (outs:=outs) (fa:=aB 0) (env:=[some (false,bQ C ins rows outs),some (false,.int w)]) rfl
  have fr:=nX (C:=C) (ins:=ins) (rows:=rows) (outs:=outs) (fa:=aB 0) (env:=[some (false,bQ C ins rows outs),some (false,.int w)]) rfl
  refine bZ ?_
  show lG C [some (false,bQ C ins rows outs),some (false,.int w)]=_
  unfold lG
  by_cases h:w < (ins:Int)
  . rw [mP h]
    refine L5 ?_ (tN rfl)
    clear fr
    walk_at "ev"
  . have hk:(w - (ins:Int)).toNat < rows.length:=by omega
    have hr1:=List.getElem?_eq_getElem hk
    generalize rows[(w - (ins:Int)).toNat]=r at hr1
    have ea:=oB hr1 (a:=w - (ins:Int)) (by omega)
    rw [lF (by omega) hr1]
    refine sNo (by clear fr ea;walk_at "ev") ?_
    refine fV (aZ (xs:=[r.d]) (bG ?_ rfl) (leg_wires r))
    walk_at "ev"
theorem kT {C:Addr}{ins:Nat}{rows:List Row}{outs:List Int}{w:Int}(h1:w < ((ins + rows.length:Nat):Int)):bB C [bQ C ins rows outs,.int w]=some (LI (cP ins rows w)):=by
  have fi:=mS (C:=C) (ins:=ins) (rows:=rows) (outs:=outs) (fa:=aB 0) (env:=[some (false,bQ C ins rows outs),some (false,.int w)]) rfl
  have fr:=nX (C:=C) (ins:=ins) (rows:=rows) (outs:=outs) (fa:=aB 0) (env:=[some (false,bQ C ins rows outs),some (false,.int w)]) rfl
  refine bZ ?_
  show iL C [some (false,bQ C ins rows outs),some (false,.int w)]=_
  unfold iL cP
  by_cases h:w < (ins:Int)
  . have h':¬ (ins:Int) <= w:=by omega
    rw [if_pos h]
    refine sNo (by clear fr;walk_at "ev") rfl
  . have h':(ins:Int) <= w:=by omega
    have hk:(w - (ins:Int)).toNat < rows.length:=by omega
    have hr1:=List.getElem?_eq_getElem hk
    generalize rows[(w - (ins:Int)).toNat]=r at hr1
    have ea:=oB hr1 (a:=w - (ins:Int)) (by omega)
    rw [if_neg h,hr1]
    cases r with
    | fix b =>
      have e1:=Z0D
      simp only [Row.d] at ea
      refine L5 (by walk_at "ev") (tN ?_)
      simp only [LI,List.map_cons,List.map_nil]
      walk_at "ev"
    | not a =>
      have e1:=L3
      simp only [Row.d] at ea
      exact sNo (by walk_at "ev") rfl
    | bin k a b =>
      have e1:=L4 k
      simp only [Row.d] at ea
      exact sNo (by walk_at "ev") rfl
theorem Z40 {a b:Int}{n:Nat}(h:a - b=(n:Int)) (h1:-1000 <= b) (h2:a <= 1000):yM [.int a,.int b,.int (-1)]=some ((List.range n).map fun (k:Nat)=>.int (a - (k:Int))):=by
  simp only [yM]
  rw [if_pos (by refine⟨⟨by omega,by omega,by omega,by omega⟩,trivial⟩),h,Int.toNat_natCast]
theorem N8 {C:Addr}{ins:Nat}{rows:List Row}{outs:List Int}(hs:ins + rows.length < 64) (hl:outs.length <= 100) (hr:RowsOk ins rows) (ho:∀ a ∈ outs,0 <= a /\ a < ((ins + rows.length:Nat):Int)) :
    kQ C [bQ C ins rows outs]=some (LI (lN ins rows outs)):=by
  refine bZ ?_
  unfold xR
  refine kK (d:=dKT []) rfl ?_
  refine lM (eS (xW (by rfl))) (fun i env=>∃ a,env=[some (false,bQ C ins rows outs),some (true,dKT (cI [] (outs.take i))),a,none,none]) ⟨none,rfl⟩ ?_ ?_
  . rintro i d env hd ⟨a,rfl⟩
    obtain⟨x,hx,rfl⟩:=cR hd
    refine⟨_,_,rfl,rD (ks:=cI [] (outs.take i)) (k:=x) rfl rfl rfl ?_,some (false,.int x),by rw [jY hx];rfl⟩
    have:=jK (xs:=outs.take i) (ks:=[])
    rw [List.length_take,List.length_nil] at this
    omega
  rintro env ⟨a,rfl⟩
  rw [List.length_map,List.take_length]
  have el:fN [.lst (rows.map Row.d)]=some (.int (rows.length:Int)):=by simp only [fN,List.length_map]
  refine lM (ds:=(List.range rows.length).map fun (k:Nat)=>.int (((ins + rows.length:Nat):Int) - 1 - (k:Int))) (iI (xs:=[.int (((ins + rows.length:Nat):Int) - 1),.int ((ins:Int) - 1),.int (-1)]) ?_ (Z40 (by omega) (by omega) (by omega)))
    (fun i env=>∃ a b c,env=[some (false,bQ C ins rows outs),some (true,dKT (fX ins rows outs i)),a,b,c]) ⟨a,none,none,rfl⟩ ?_ ?_
  . have fi:=mS (C:=C) (ins:=ins) (rows:=rows) (outs:=outs) (fa:=aB 0) (env:=[some (false,bQ C ins rows outs),some (true,dKT (cI [] outs)),a,none,none]) rfl
    have fr:=nX (C:=C) (ins:=ins) (rows:=rows) (outs:=outs) (fa:=aB 0) (env:=[some (false,bQ C ins rows outs),some (true,dKT (cI [] outs)),a,none,none]) rfl
    rw [show ((ins + rows.length:Nat):Int)=(ins:Int) + (rows.length:Int) by omega]
    clear hr ho hs hl
    walk_at "ev"
  . rintro i d env hd ⟨a,b,c,rfl⟩
    obtain⟨hi,rfl⟩:=kM hd
    have hnl:=tU hr ho i
    by_cases hw:(((ins + rows.length:Nat):Int) - 1 - (i:Int)) ∈ fX ins rows outs i
    . generalize hW:((ins + rows.length:Nat):Int) - 1 - (i:Int)=W at *
      have so:=mW (C:=C) (ins:=ins) (rows:=rows) (outs:=outs) (w:=W) (by omega)
      have hll:=jH (ins:=ins) (rows:=rows) (w:=W)
      obtain⟨env',h1,⟨z,rfl⟩⟩:=wS (rs:=[]) (src:=dP (aP (bV C) [] (aC (aB 0) (aC (aB 3) aL)))) (t:=gtN 4) (g:=rE 1 (aB 4) (fC (.bl true))) (env:=[some (false,bQ C ins rows outs),some (true,dKT (fX ins rows outs i)),a,some (false,.int W),c]) (ds:=(bF ins rows W).map D.int)
        (eS (aZ (xs:=[bQ C ins rows outs,.int W]) rfl so))
        (fun j env=>∃ z,env=[some (false,bQ C ins rows outs),some (true,dKT (cI (fX ins rows outs i) ((bF ins rows W).take j))),a,some (false,.int W),z]) ⟨c,rfl⟩ (by
          rintro j d env hd ⟨z,rfl⟩
          obtain⟨x,hx,rfl⟩:=cR hd
          refine⟨_,_,rfl,rD (ks:=cI (fX ins rows outs i) ((bF ins rows W).take j)) (k:=x) rfl rfl rfl ?_,some (false,.int x),by rw [jY hx];rfl⟩
          have:=jK (xs:=(bF ins rows W).take j) (ks:=fX ins rows outs i)
          rw [List.length_take] at this
          omega)
      rw [List.length_map,List.take_length] at h1
      refine⟨_,_,rfl,L9 ?_ h1,a,some (false,.int W),z,?_⟩
      . show B6 (aB 3) (aB 1) [some (false,bQ C ins rows outs),some (true,dKT (fX ins rows outs i)),a,some (false,.int W),c]=some true
        simp only [ev_InK,ev_var,List.getElem?_cons_zero,List.getElem?_cons_succ,Option.join_some,Option.map_some,dKT,keyOf,nS,hw,decide_true]
      . simp only [fX]
        rw [hW,if_pos hw]
    . generalize hW:((ins + rows.length:Nat):Int) - 1 - (i:Int)=W at *
      refine⟨_,_,rfl,U5 ?_ rfl,a,some (false,.int W),c,?_⟩
      . show B6 (aB 3) (aB 1) [some (false,bQ C ins rows outs),some (true,dKT (fX ins rows outs i)),a,some (false,.int W),c]=some false
        simp only [ev_InK,ev_var,List.getElem?_cons_zero,List.getElem?_cons_succ,Option.join_some,Option.map_some,dKT,keyOf,nS,hw,decide_false]
      . simp only [fX]
        rw [hW,if_neg hw]
        rfl
  rintro env ⟨a,b,c,rfl⟩
  rw [List.length_map,List.length_range]
  have hnl:=tU hr ho rows.length
  refine fV (kB (xs:=[dKT (fX ins rows outs rows.length)]) rfl ?_)
  unfold vZ dKT
  simp only [A2]
  rw [if_pos (by omega)]
  rfl
theorem R5 {ins:Nat}{rows:List Row}{C:Addr}{outs:List Int}{w:Int}{base:List D}(hb:base.length <= 900) (a3 a4 a5:Slot) (so:bB C [bQ C ins rows outs,.int w]=some (LI (cP ins rows w))) :
    ∃ z,dZ [] (dP (aP (bB C) [] (aC (aB 0) (aC (aB 2) aL)))) (gtN 3) (gQ 1 (iM (aC (fC (.str "wire")) (aC (aW (aB 2)) (aC (aW (aB 3)) aL)))))
      [some (false,bQ C ins rows outs),some (true,.lst base),some (false,.int w),a3,a4,a5]=.next [some (false,bQ C ins rows outs),some (true,.lst (base ++ ((cP ins rows w).map fun b=>Flt.wire w b).map Flt.d)),some (false,.int w),z,a4,a5]:=by
  have hbl:=gD (ins:=ins) (rows:=rows) (w:=w)
  obtain⟨env',h1,⟨z,rfl⟩⟩:=wS (rs:=[]) (src:=dP (aP (bB C) [] (aC (aB 0) (aC (aB 2) aL)))) (t:=gtN 3) (g:=gQ 1 (iM (aC (fC (.str "wire")) (aC (aW (aB 2)) (aC (aW (aB 3)) aL)))))
    (env:=[some (false,bQ C ins rows outs),some (true,.lst base),some (false,.int w),a3,a4,a5]) (ds:=(cP ins rows w).map D.int) (eS (aZ (xs:=[bQ C ins rows outs,.int w]) rfl so))
    (fun j env=>∃ z,env=[some (false,bQ C ins rows outs),some (true,.lst (base ++ (((cP ins rows w).take j).map fun b=>Flt.wire w b).map Flt.d)),some (false,.int w),z,a4,a5]) ⟨a3,by simp [PD.fz]⟩ (by
      rintro j d env hd ⟨z,rfl⟩
      obtain⟨x,hx,rfl⟩:=cR hd
      refine⟨_,_,rfl,jN (d:=(Flt.wire w x).d) rfl rfl ?_,some (false,.int x),?_⟩
      . rw [List.length_append,List.length_map,List.length_map,List.length_take];omega
      . rw [cB hx];simp only [List.map_append,List.map_cons,List.map_nil,<- List.append_assoc];rfl)
  rw [List.length_map,List.take_length] at h1
  exact⟨z,h1⟩
theorem Z0k {ins:Nat}{rows:List Row}{C:Addr}{outs:List Int}{w:Int}{base:List D}(hb:base.length <= 900) (a3 a4 a5:Slot) (sl:bV C [bQ C ins rows outs,.int w]=some (LI (bF ins rows w))) (so:∀ a ∈ bF ins rows w,bB C [bQ C ins rows outs,.int a]=some (LI (cP ins rows a))) :
    ∃ x y z,dZ [] (sB1 mK (aC (aP (bV C) [] (aC (aB 0) (aC (aB 2) aL))) aL)) (gtT [4,5]) (dZ [] (dP (aP (bB C) [] (aC (aB 0) (aC (aB 5) aL)))) (gtN 3) (gQ 1 (iM (aC (fC (.str "leg")) (aC (aW (aB 2)) (aC (aW (aB 4)) (aC (aW (aB 3)) aL)))))))
      [some (false,bQ C ins rows outs),some (true,.lst base),some (false,.int w),a3,a4,a5]=.next [some (false,bQ C ins rows outs),some (true,.lst (base ++ (bO ins rows w 0 (bF ins rows w)).map Flt.d)),some (false,.int w),x,y,z]:=by
  have hll:=jH (ins:=ins) (rows:=rows) (w:=w)
  obtain⟨env',h1,⟨x,y,z,rfl⟩⟩:=wS (rs:=[]) (src:=sB1 mK (aC (aP (bV C) [] (aC (aB 0) (aC (aB 2) aL))) aL)) (t:=gtT [4,5]) (g:=dZ [] (dP (aP (bB C) [] (aC (aB 0) (aC (aB 5) aL)))) (gtN 3) (gQ 1 (iM (aC (fC (.str "leg")) (aC (aW (aB 2)) (aC (aW (aB 4)) (aC (aW (aB 3)) aL)))))))
    (env:=[some (false,bQ C ins rows outs),some (true,.lst base),some (false,.int w),a3,a4,a5]) (ds:=((bF ins rows w).map D.int).mapIdx fun i d=>.tup [.int i,d]) (iI (xs:=[LI (bF ins rows w)]) (bG (aZ (xs:=[bQ C ins rows outs,.int w]) rfl sl) rfl) (by simp only [mK,LI]))
    (fun j env=>∃ x y z,env=[some (false,bQ C ins rows outs),some (true,.lst (base ++ (bO ins rows w 0 ((bF ins rows w).take j)).map Flt.d)),some (false,.int w),x,y,z]) ⟨a3,a4,a5,by simp [PD.fz,bO]⟩ (by
      rintro j d env hd ⟨x,y,z,rfl⟩
      obtain⟨e,he,rfl⟩:=nE hd
      obtain⟨a,ha,rfl⟩:=cR he
      have sa:=so a (List.mem_of_getElem? ha)
      have hbl:=gD (ins:=ins) (rows:=rows) (w:=a)
      have hfl:=iC (ins:=ins) (rows:=rows) (w:=w) ((bF ins rows w).take j) 0
      rw [List.length_take] at hfl
      generalize hB:base ++ (bO ins rows w 0 ((bF ins rows w).take j)).map Flt.d=B at *
      have hBl:B.length <= 950:=by rw [<- hB,List.length_append,List.length_map];omega
      obtain⟨env',h1,⟨z',rfl⟩⟩:=wS (rs:=[]) (src:=dP (aP (bB C) [] (aC (aB 0) (aC (aB 5) aL)))) (t:=gtN 3) (g:=gQ 1 (iM (aC (fC (.str "leg")) (aC (aW (aB 2)) (aC (aW (aB 4)) (aC (aW (aB 3)) aL))))))
        (env:=[some (false,bQ C ins rows outs),some (true,.lst B),some (false,.int w),x,some (false,.int j),some (false,.int a)]) (ds:=(cP ins rows a).map D.int) (eS (aZ (xs:=[bQ C ins rows outs,.int a]) rfl sa))
        (fun l env=>∃ z',env=[some (false,bQ C ins rows outs),some (true,.lst (B ++ (((cP ins rows a).take l).map fun b=>Flt.leg w (j:Int) b).map Flt.d)),some (false,.int w),z',some (false,.int j),some (false,.int a)]) ⟨x,by simp [PD.fz]⟩ (by
          rintro l d env hd ⟨z',rfl⟩
          obtain⟨b,hb',rfl⟩:=cR hd
          refine⟨_,_,rfl,jN (d:=(Flt.leg w (j:Int) b).d) rfl rfl ?_,some (false,.int b),?_⟩
          . rw [List.length_append,List.length_map,List.length_map,List.length_take];omega
          . rw [cB hb'];simp only [List.map_append,List.map_cons,List.map_nil,<- List.append_assoc];rfl)
      rw [List.length_map,List.take_length] at h1
      refine⟨_,_,rfl,h1,z',some (false,.int j),some (false,.int a),?_⟩
      rw [mB ha,List.map_append,<- List.append_assoc,hB])
  rw [List.length_mapIdx,List.length_map,List.take_length] at h1
  exact⟨x,y,z,h1⟩
theorem tE {C:Addr}{ins:Nat}{rows:List Row}{outs:List Int}(hs:ins + rows.length < 64) (hl:outs.length <= 100) (hr:RowsOk ins rows) (ho:∀ a ∈ outs,0 <= a /\ a < ((ins + rows.length:Nat):Int)) :
    fW C [bQ C ins rows outs]=some (.lst ((dW ins rows outs).map Flt.d)):=by
  have nd:=N8 (C:=C) hs hl hr ho
  have nb:=pN hr ho
  have nl:=oP hr ho
  refine bZ ?_
  unfold nW dW
  generalize lN ins rows outs=N at *
  refine kK (d:=.lst []) rfl ?_
  refine lM (ds:=N.map D.int) (eS (aZ (xs:=[bQ C ins rows outs]) rfl nd))
    (fun i env=>∃ a b c d,env=[some (false,bQ C ins rows outs),some (true,.lst (((N.take i).flatMap (bY ins rows)).map Flt.d)),a,b,c,d]) ⟨none,none,none,none,rfl⟩ ?_ ?_
  . rintro i d env hd ⟨a,b,c,e,rfl⟩
    obtain⟨w,hw,rfl⟩:=cR hd
    have hwb:=nb w (List.mem_of_getElem? hw)
    have hil:i < N.length:=(List.getElem?_eq_some_iff.mp hw).1
    have fl:=nY (ins:=ins) (rows:=rows) (N.take i)
    rw [List.length_take] at fl
    rw [uG hw]
    generalize hB:(N.take i).flatMap (bY ins rows)=B at *
    have hBl:(B.map Flt.d).length <= 400:=by rw [List.length_map];omega
    obtain⟨z,h1⟩:=R5 (C:=C) (outs:=outs) (w:=w) (base:=B.map Flt.d) (by omega) b c e (kT hwb.2)
    have hbl:=gD (ins:=ins) (rows:=rows) (w:=w)
    obtain⟨x',y',z',h2⟩:=Z0k (C:=C) (outs:=outs) (w:=w) (base:=B.map Flt.d ++ ((cP ins rows w).map fun b=>Flt.wire w b).map Flt.d) (by rw [List.length_append,List.length_map,List.length_map,List.length_map];rw [List.length_map] at hBl;omega) z c e (mW hwb.2)
      (fun a ha=>kT (by have:=iZ hr ha;omega))
    refine⟨_,_,rfl,Z0C h1 h2,some (false,.int w),x',y',z',?_⟩
    unfold bY
    simp only [List.map_append,List.append_assoc]
  . rintro env ⟨a,b,c,e,rfl⟩
    rw [List.length_map,List.take_length]
    rfl
theorem E3 {C:Addr}{c k:Int}(hc:Builtin.Int.intBits c <= 1048700) (hk:0 <= k):∃ m,0 <= m /\ m < 2147483648 /\ eT C [.int c,.int k]=some (.int m):=by
  have p1:Z1x 10 40:=⟨by decide,by decide,by decide⟩
  have p2:dS 1 (31 * (k % 60)):=mJ (by omega) (by omega)
  have p3:dS 1 31:=mJ (by decide) (by decide)
  have m1:IntMulOk 31 (k % 60):=jU (by decide) (by decide)
  have m2:IntMulOk c c:=PySem.IntMulOk.of_le hc hc (by decide)
  have m3:IntMulOk 3 c:=jU (by decide) (by decide)
  have m4:IntMulOk 7919 k:=jU (by decide) (by decide)
  have m5:∀ x,IntMulOk x 48271:=fun x=>vF (by decide) (by decide)
  have q1:(0:Int) < 60:=by decide
  have q2:(0:Int) < 1 * 2 ^ Int.toNat 31:=by decide
  have q3:(0:Int) < 2147483629:=by decide
  have q4:(0:Int) < 2147483587:=by decide
  have d1:fE (c - 10 ^ Int.toNat 40) (1 * 2 ^ (31 * (k % 60)).toNat):=yE (by omega)
  by_cases h:(10:Int) ^ Int.toNat 40 <= c
  . refine⟨(c - 10 ^ Int.toNat 40) / (1 * 2 ^ (31 * (k % 60)).toNat) % (1 * 2 ^ Int.toNat 31),Int.emod_nonneg _ (by decide),Int.emod_lt_of_pos _ (by decide),?_⟩
    unfold eT pE
    walk_at "ev"
  . refine⟨((c * c + 3 * c + 7919 * k + 1) * 48271 % 2147483629 * ((c * c + 3 * c + 7919 * k + 1) * 48271 % 2147483629) + 7) % 2147483587,Int.emod_nonneg _ (by decide),Int.lt_trans (Int.emod_lt_of_pos _ (by decide)) (by decide),?_⟩
    have n0:=Int.emod_nonneg ((c * c + 3 * c + 7919 * k + 1) * 48271) (show (2147483629:Int) ≠ 0 by decide)
    have n1:=Int.emod_lt_of_pos ((c * c + 3 * c + 7919 * k + 1) * 48271) (show (0:Int) < 2147483629 by decide)
    have m6:IntMulOk ((c * c + 3 * c + 7919 * k + 1) * 48271 % 2147483629) ((c * c + 3 * c + 7919 * k + 1) * 48271 % 2147483629):=jU (by omega) (by omega)
    unfold eT pE
    walk_at "ev"
theorem Z3e (x:Int):∃ k:Kd,atI [D.str "and",.str "or",.str "xor",.str "and",.str "or"] (x % 5)=some (.str k.s):=by
  have h0:=Int.emod_nonneg x (show (5:Int) ≠ 0 by decide)
  have h1:=Int.emod_lt_of_pos x (show (0:Int) < 5 by decide)
  generalize x % 5=y at *
  have:y=0 \/ y=1 \/ y=2 \/ y=3 \/ y=4:=by omega
  rcases this with rfl | rfl | rfl | rfl | rfl
  . exact⟨.and,rfl⟩
  . exact⟨.or,rfl⟩
  . exact⟨.xor,rfl⟩
  . exact⟨.and,rfl⟩
  . exact⟨.or,rfl⟩
theorem Z3n {C:Addr}{m w:Int}{nr:Bool}(hm:0 <= m) (hw:0 < w):∃ r,RowOk w r /\ jV C [.int m,.int w,.bl nr]=some r.d:=by
  obtain⟨k,hk⟩:=Z3e (m % 11)
  have d1:fE m 11:=⟨by decide,by decide⟩
  have d2:fE m 1009:=⟨by decide,by decide⟩
  have d3:fE m 7:=⟨by decide,by decide⟩
  have d4:fE m 13:=⟨by decide,by decide⟩
  have d5:fE m 5:=⟨by decide,by decide⟩
  have q1:(0:Int) < 2:=by decide
  have q2:(0:Int) < 11:=by decide
  have q3:(0:Int) < 5:=by decide
  have e1:Z1v [.int w,.int 3]=some (.int (if 3 < w then 3 else w)):=rfl
  have a0:=Int.emod_nonneg (m / 11) (show w ≠ 0 by omega)
  have a1:=Int.emod_lt_of_pos (m / 11) hw
  have b0:=Int.emod_nonneg (m / 1009) (show w ≠ 0 by omega)
  have b1:=Int.emod_lt_of_pos (m / 1009) hw
  generalize hmn:(if 3 < w then 3 else w)=mn at e1
  have q4:0 < mn:=by rw [<- hmn];split <;> omega
  have q5:mn <= w:=by rw [<- hmn];split <;> omega
  have c0:=Int.emod_nonneg (m / 13) (show mn ≠ 0 by omega)
  have c1:=Int.emod_lt_of_pos (m / 13) q4
  have f0:=Int.emod_nonneg (m / 5) (show (2:Int) ≠ 0 by decide)
  have f1:=Int.emod_lt_of_pos (m / 5) q1
  have key:∃ o,0 <= o /\ o < w /\ jV C [.int m,.int w,.bl nr]=runF 6 (fun _=>(aO (bR 5 (fI2 (fun _ j=>0 < j) (fun i j=>.int (i % j)) (aB 0) (fC (.int 11))))
    (aO (rIf (fEq (aB 5) (fC (.int 0))) (bU (iM (aC (fC (.str "fix")) (aC (fI2 (fun _ j=>0 < j) (fun i j=>.int (i % j)) (fI2 fE (fun i j=>.int (i / j)) (aB 0) (fC (.int 5))) (fC (.int 2))) aL)))) bX)
    (aO (rIf (fBI (fun i j=>decide (i < j)) (aB 5) (fC (.int 3))) (bU (iM (aC (fC (.str "not")) (aC (aW (aB 3)) aL)))) bX)
    (bU (iM (aC (aW (fIx (jI (aC (fC (.str "and")) (aC (fC (.str "or")) (aC (fC (.str "xor")) (aC (fC (.str "and")) (aC (fC (.str "or")) aL)))))) (fI2 (fun _ j=>0 < j) (fun i j=>.int (i % j)) (aB 5) (fC (.int 5))))) (aC (aW (aB 3)) (aC (aW (aB 4)) aL)))))))) [some (false,.int m),some (false,.int w),some (false,.bl nr),some (true,.int o),some (true,.int (m / 1009 % w)),none]) []:=by
    unfold jV E7
    cases nr with
    | false =>
      refine⟨m / 11 % w,a0,a1,?_⟩
      walk_at "ev"
    | true =>
      by_cases h:m / 7 % 2=1
      . refine⟨w - 1 - m / 13 % mn,by omega,by omega,?_⟩
        walk_at "ev"
      . refine⟨m / 11 % w,a0,a1,?_⟩
        walk_at "ev"
  obtain⟨o,o0,o1,hkey⟩:=key
  rw [hkey]
  by_cases h0:m % 11=0
  . refine⟨.fix (m / 5 % 2),by show _ \/ _;omega,?_⟩
    walk_at "ev"
    rfl
  . by_cases h1:m % 11 < 3
    . refine⟨.not o,⟨o0,o1⟩,?_⟩
      walk_at "ev"
      rfl
    . refine⟨.bin k o (m / 1009 % w),⟨⟨o0,o1⟩,b0,b1⟩,?_⟩
      walk_at "ev"
      rfl
theorem yI:∀ (xs:List Int) (n:Nat),(∀ c ∈ xs,Builtin.Int.intBits c <= n)->Builtin.Int.intBits xs.sum <= n + xs.length
  | [],n,_=>by simp [Builtin.Int.intBits]
  | x :: xs,n,h=>by
    rw [List.sum_cons]
    have h1:=h x List.mem_cons_self
    have h2:=yI xs n fun c hc=>h c (List.mem_cons_of_mem _ hc)
    have:=PySem.intBits_add_le h1 h2
    rw [List.length_cons]
    omega
theorem RowsOk.snoc {ins:Nat}{rows:List Row}{r:Row}(h:RowsOk ins rows) (hr:RowOk ((ins + rows.length:Nat):Int) r):RowsOk ins (rows ++ [r]):=by
  intro k r' e
  by_cases hk:k < rows.length
  . rw [List.getElem?_append_left hk] at e;exact h k r' e
  . rw [List.getElem?_append_right (by omega)] at e
    have:k - rows.length=0:=by
      by_cases z:k - rows.length=0
      . exact z
      . rw [List.getElem?_eq_none (by simp;omega)] at e;cases e
    rw [this] at e
    simp at e
    subst e
    have:k=rows.length:=by omega
    rw [this];exact hr
theorem Q9 {cells:List Int}(hb:∀ c ∈ cells,Builtin.Int.intBits c <= 1048576):Builtin.Int.intBits ((cells.take 9).sum + 5) <= 1048700:=by
  have h1:=yI (cells.take 9) 1048576 fun c hc=>hb c (List.mem_of_mem_take hc)
  have h2:Builtin.Int.intBits 5 <= 64:=PySem.intBits_le_64 (by decide) (by decide)
  have h3:=PySem.intBits_add_le h1 h2
  have h4:(cells.take 9).length <= 9:=by simp;omega
  omega
theorem rR {C:Addr}{cells:List Int}{ins most many B:Nat}{a b c:Slot}(hb:∀ c ∈ cells,Builtin.Int.intBits c <= 1048576) (hi:ins <= 8) (hm:most <= 60) (hB:B <= 60) (hmany:many <= 15) (rows:List Row) (hr:RowsOk ins rows) (hl:rows.length <= B) (hp:0 < ins + rows.length) :
  Wp ((aO (bR 8 (fI0 (fun i j=>.int (i - j)) (fI0 (fun i j=>.int (i + j)) (aB 1) (fB1 fN (aC (aB 4) aL))) (fC (.int 1))))
  (aO (bR 9 (jI aL))
  (aO (dZ [] (sB1 hG (aC (fI0 (fun i j=>.int (i + j)) (aB 3) (fC (.int 1))) aL)) (gtN 5) (aO (bR 7 (aP (eT C) [] (aC (fI0 (fun i j=>.int (i + j)) (fB1 vY (aC (fSl (aB 0) lR (fP (fC (.int 9)))) aL)) (fC (.int 5))) (aC (aB 5) aL))))
  (gQ 9 (aW (fIx (jI (aC (aW (aB 8)) (aC (fI2 (fun _ j=>0 < j) (fun i j=>.int (i % j)) (fI2 fE (fun i j=>.int (i / j)) (aB 7) (fC (.int 3))) (fI0 (fun i j=>.int (i + j)) (aB 8) (fC (.int 1)))) aL))) (fB1 C1 (aC (lI (fOr (fB (fI0 (fun i j=>.bl (decide (j < i))) (fI2 (fun _ j=>0 < j) (fun i j=>.int (i % j)) (aB 7) (fC (.int 3))) (fC (.int 0)))) (fB (fI0 (fun i j=>.bl (decide (j < i))) (aB 5) (fC (.int 0)))))) aL)))))))
  (wQ 4 9)))) [some (false,LI cells),some (false,.int ins),some (false,.int most),some (false,.int many),some (true,.lst (rows.map Row.d)),a,b,c,none,none]) (Rt fun d=>∃ rows outs,RowsOk ins rows /\ rows.length <= B /\ 0 < ins + rows.length /\ outs.length=many + 1 /\ (∀ a ∈ outs,0 <= a /\ a < ((ins + rows.length:Nat):Int)) /\ d=.tup [.lst (rows.map Row.d),LI outs]):=by
  have el:fN [.lst (rows.map Row.d)]=some (.int (rows.length:Int)):=by simp only [fN,List.length_map]
  refine oC (d:=.int ((ins:Int) + (rows.length:Int) - 1)) (by walk_at "ev") ?_
  refine oC (d:=.lst []) (by walk_at "ev") ?_
  have er:hG [.int ((many:Int) + 1)]=_:=Z23 (n:=many + 1) (by omega) (by omega)
  refine Z0s (ds:=(List.range (many + 1)).map fun (k:Nat)=>.int (k:Int)) ?_ (fun i env=>∃ outs a b c,outs.length=i /\ (∀ a ∈ outs,0 <= a /\ a < ((ins + rows.length:Nat):Int)) /\ env=[some (false,LI cells),some (false,.int ins),some (false,.int most),some (false,.int many),some (true,.lst (rows.map Row.d)),a,b,c,some (true,.int ((ins:Int) + (rows.length:Int) - 1)),some (true,LI outs)]) ⟨[],a,b,c,rfl,fun a h=>(by cases h),rfl⟩ ?_ ?_
  . exact iI (xs:=[.int ((many:Int) + 1)]) (by walk_at "ev") er
  . rintro i d env hd ⟨outs,a,b,c,ho,hall,rfl⟩
    obtain⟨hin,rfl⟩:=kM hd
    have hsb:=Q9 hb
    obtain⟨m,m0,m1,em⟩:=E3 (C:=C) hsb (show (0:Int) <= (i:Int) by omega)
    refine⟨_,rfl,?_⟩
    have e1:=gI cells
    have e2:cutD (cells.map D.int) none (some 9)=(cells.take 9).map D.int:=by rw [List.map_take];exact mI (cells.map D.int) 9
    have e3:=yZ (cells.take 9)
    refine oC (d:=.int m) (by simp only [LI];walk_at "ev") ?_
    have hol:(outs.map D.int).length <= 1000:=by rw [List.length_map];omega
    have q3:(0:Int) < 3:=by decide
    have d3:fE m 3:=⟨by decide,by decide⟩
    have ql:0 < (ins:Int) + (rows.length:Int) - 1 + 1:=by omega
    have z0:=Int.emod_nonneg (m / 3) (show (ins:Int) + (rows.length:Int) - 1 + 1 ≠ 0 by omega)
    have z1:=Int.emod_lt_of_pos (m / 3) ql
    have hfin:∀ v:Int,0 <= v->v < ((ins + rows.length:Nat):Int)->Tn (fun env=>∃ outs a b c,outs.length=i + 1 /\ (∀ a ∈ outs,0 <= a /\ a < ((ins + rows.length:Nat):Int)) /\ env=[some (false,LI cells),some (false,.int ins),some (false,.int most),some (false,.int many),some (true,.lst (rows.map Row.d)),a,b,c,some (true,.int ((ins:Int) + (rows.length:Int) - 1)),some (true,LI outs)]) (wQ 4 9) (Rt fun d=>∃ rows outs,RowsOk ins rows /\ rows.length <= 60 /\ 0 < ins + rows.length /\ outs.length=many + 1 /\ (∀ a ∈ outs,0 <= a /\ a < ((ins + rows.length:Nat):Int)) /\ d=.tup [.lst (rows.map Row.d),LI outs])
        (.next [some (false,LI cells),some (false,.int ins),some (false,.int most),some (false,.int many),some (true,.lst (rows.map Row.d)),some (false,.int i),b,some (true,.int m),some (true,.int ((ins:Int) + (rows.length:Int) - 1)),some (true,.lst (outs.map D.int ++ [.int v]))]):=by
      intro v v0 v1
      have hmem:∀ a ∈ outs ++ [v],0 <= a /\ a < ((ins + rows.length:Nat):Int):=by
        intro a ha
        rcases List.mem_append.mp ha with z | z
        . exact hall a z
        . have:a=v:=by simpa using z
          subst this;exact⟨v0,v1⟩
      exact⟨outs ++ [v],_,_,_,by simp [ho],hmem,by simp only [LI,List.map_append,List.map_cons,List.map_nil];rfl⟩
    by_cases hc:0 < m % 3
    . refine wF (d:=.int (m / 3 % ((ins:Int) + (rows.length:Int) - 1 + 1))) (by simp only [LI];walk_at "ev";simp only [C1,if_true];walk_at "ev") rfl hol ?_
      exact hfin _ z0 (by omega)
    . by_cases hk:0 < (i:Int)
      . refine wF (d:=.int (m / 3 % ((ins:Int) + (rows.length:Int) - 1 + 1))) (by simp only [LI];walk_at "ev";simp only [C1,if_true];walk_at "ev") rfl hol ?_
        exact hfin _ z0 (by omega)
      . refine wF (d:=.int ((ins:Int) + (rows.length:Int) - 1)) (by simp only [LI];walk_at "ev";simp only [C1];walk_at "ev") rfl hol ?_
        exact hfin _ (by omega) (by omega)
  rintro env ⟨outs,a',b',c',ho,hall,rfl⟩
  refine⟨_,rfl,rows,outs,hr,hl,hp,by simpa using ho,hall,rfl⟩
theorem zZ {C:Addr}{cells:List Int}{ins most many B:Nat}(hb:∀ c ∈ cells,Builtin.Int.intBits c <= 1048576) (hi:ins <= 8) (hm:most <= B) (hB:B <= 60) (hB1:1 <= B) (hmany:many <= 15) :
    ∃ d,fK C [LI cells,.int ins,.int most,.int many]=some d /\ ∃ rows outs,RowsOk ins rows /\ rows.length <= B /\ 0 < ins + rows.length /\ outs.length=many + 1 /\ (∀ a ∈ outs,0 <= a /\ a < ((ins + rows.length:Nat):Int)) /\ d=.tup [.lst (rows.map Row.d),LI outs]:=by
  refine Z3Z ?_
  unfold pW
  refine oC (d:=.lst []) (by walk_at "ev") ?_
  refine Z0s (ds:=(((cells.take most).map D.int).mapIdx fun i d=>.tup [.int i,d])) ?_ (fun i env=>∃ rows a b c,RowsOk ins rows /\ rows.length=i /\ env=[some (false,LI cells),some (false,.int ins),some (false,.int most),some (false,.int many),some (true,.lst (rows.map Row.d)),a,b,c,none,none]) ⟨[],none,none,none,fun k r e=>by simp at e,rfl,rfl⟩ ?_ ?_
  . have e1:=gI cells
    have e2:=mI (cells.map D.int) most
    refine iI (xs:=[.lst ((cells.take most).map D.int)]) (by simp only [LI,List.map_take];walk_at "ev") ?_
    simp only [mK]
  . rintro i d env hd ⟨rows,a,b,c,hr,rfl,rfl⟩
    obtain⟨x,hx,rfl⟩:=nE hd
    obtain⟨y,hy,rfl⟩:=cR hx
    have hil:rows.length < most:=by
      have:=(List.getElem?_eq_some_iff.mp hy).1
      rw [List.length_take] at this;omega
    have hyb:Builtin.Int.intBits y <= 1048700:=Nat.le_trans (hb y (List.mem_of_mem_take (List.mem_of_getElem? hy))) (by decide)
    obtain⟨m,m0,m1,em⟩:=E3 (C:=C) hyb (show (0:Int) <= (rows.length:Int) by omega)
    refine⟨_,rfl,?_⟩
    refine oC (d:=.int m) (by walk_at "ev") ?_
    have hlen:(rows.map Row.d).length <= 1000:=by rw [List.length_map];omega
    have el:fN [.lst (rows.map Row.d)]=some (.int (rows.length:Int)):=by simp only [fN,List.length_map]
    have q2:(0:Int) < 2:=by decide
    by_cases hz:(ins:Int) + (rows.length:Int)=0
    . refine R7 (by walk_at "ev") ?_
      refine wF (d:=(Row.fix (m % 2)).d) (by walk_at "ev";rfl) rfl hlen ?_
      exact⟨rows ++ [.fix (m % 2)],_,_,_,hr.snoc (by show _ \/ _;omega),by simp,by simp only [List.map_append,List.map_cons,List.map_nil];rfl⟩
    . refine C2 (by walk_at "ev") ?_
      obtain⟨r,r1,r2⟩:=Z3n (C:=C) (nr:=decide (y % 2=0)) m0 (show 0 < (ins:Int) + (rows.length:Int) by omega)
      refine wF (d:=r.d) (by walk_at "ev") rfl hlen ?_
      exact⟨rows ++ [r],_,_,_,hr.snoc (by rw [show ((ins + rows.length:Nat):Int)=(ins:Int) + (rows.length:Int) by omega];exact r1),by simp,by simp only [List.map_append,List.map_cons,List.map_nil];rfl⟩
  rintro env ⟨rows,a,b,c,hr,hl,rfl⟩
  rw [List.length_mapIdx,List.length_map,List.length_take] at hl
  have hl2:rows.length <= B:=by omega
  clear hl
  have key:=rR (C:=C) (most:=most) (B:=B) (a:=a) (b:=b) (c:=c) hb hi (Nat.le_trans hm hB) hB hmany
  have el:fN [.lst (rows.map Row.d)]=some (.int (rows.length:Int)):=by simp only [fN,List.length_map]
  by_cases hz:(ins:Int) + (rows.length:Int)=0
  . refine Z3I (by walk_at "ev") ?_
    refine Z3J (d:=(Row.fix 1).d) (by walk_at "ev";rfl) rfl (by rw [List.length_map];omega) ?_
    have:=key (rows ++ [.fix 1]) (hr.snoc (show RowOk _ (.fix 1) from Or.inr rfl)) (by simp;omega) (by simp;omega)
    simpa only [List.map_append,List.map_cons,List.map_nil,List.set_cons_succ,List.set_cons_zero] using this
  . refine wNo (by walk_at "ev") ?_
    exact key rows hr (by omega) (by omega)
theorem Z19 {C:Addr}{i:Int}:hX C [.int i]=some (.bl true):=by
  have h1:mU "int" (.int i)=some true:=rfl
  have h2:mU "bool" (.int i)=some false:=rfl
  unfold hX uC
  walk_at "ev"
theorem Z1s {rows:List Row}{k:Nat}{r:Row}(h:rows[k]? = some r) {a:Int}(e:a=(k:Int)):atI (rows.map Row.d) a=some r.d:=by
  subst e
  exact lK (by simp [h])
theorem Y8 {C:Addr}{ins:Nat}{rows:List Row}{w:Int}(h1:w < ((ins + rows.length:Nat):Int)):gU C [.int ins,.lst (rows.map Row.d),.int w]=some (LI (bF ins rows w)):=by
  refine bZ ?_
  show sA C [some (false,.int ins),some (false,.lst (rows.map Row.d)),some (false,.int w)]=_
  unfold sA
  by_cases h:w < (ins:Int)
  . rw [mP h]
    refine L5 (by walk_at "ev") (tN rfl)
  . have hk:(w - (ins:Int)).toNat < rows.length:=by omega
    have hr1:=List.getElem?_eq_getElem hk
    generalize rows[(w - (ins:Int)).toNat]=r at hr1
    have ea:=oB hr1 (a:=w - (ins:Int)) (by omega)
    rw [lF (by omega) hr1]
    cases r with
    | fix b =>
      have e1:=Z0D
      simp only [Row.d] at ea
      exact L5 (by walk_at "ev") (tN rfl)
    | not a =>
      have e1:=L3
      simp only [Row.d] at ea
      refine sNo (by walk_at "ev") (fV ?_)
      simp [ea,fSl,flats,PD.flat,Z1p,T6,gZ,LI,Row.ws]
    | bin k a b =>
      have e1:=L4 k
      simp only [Row.d] at ea
      refine sNo (by walk_at "ev") (fV ?_)
      simp [ea,fSl,flats,PD.flat,Z1p,T6,gZ,LI,Row.ws]
theorem wW {env:En}{L:List Int}{x:Int}{k:Nat}{b:Bool}(hk:env[k]? = some (some (b,.int x))) (h3:env[3]? = some (some (true,LI L))) (hl:L.length <= 1000) :
    rIf (iN (fIn (aB k) (aB 3))) (gQ 3 (aW (aB k))) bX env=.next (env.set 3 (some (true,LI (jM L x)))):=by
  have e1:aB k env=some (.int x):=by unfold aB;rw [hk];rfl
  have e2:aB 3 env=some (LI L):=by unfold aB;rw [h3];rfl
  have hi:3 < env.length:=(List.getElem?_eq_some_iff.mp h3).1
  have e3:iN (fIn (aB k) (aB 3)) env=some (!decide (x ∈ L)):=by
    simp only [ev_Not,ev_In,e1,e2,Z7,Option.map_some]
  unfold jM
  by_cases h:x ∈ L
  . rw [if_pos h]
    refine U5 (by rw [e3];simp [h]) ?_
    show Res.next env=_
    congr 1
    apply List.ext_getElem?
    intro j
    by_cases hj:j=3
    . subst hj;rw [List.getElem?_set_self hi,h3]
    . rw [List.getElem?_set_ne (Ne.symm hj)]
  . rw [if_neg h]
    refine L9 (by rw [e3];simp [h]) ?_
    refine (jN (d:=.int x) ?_ h3 (by simpa using hl)).trans ?_
    . simp only [ev_Flat,e1,PD.flat,if_true]
    . simp only [LI,List.map_append,List.map_cons,List.map_nil]
structure Z3E (ins:Nat) (rows:List Row) (outs:List Int) (at':Nat) (L:List Int):Prop where
  nd:L.Nodup
  out:∀ a ∈ outs,a ∈ L
  cl:∀ (i:Nat) (a:Int),i < at'->L[i]? = some a->∀ b ∈ bF ins rows a,b ∈ L
  least:∀ S:Int->Prop,(∀ a ∈ outs,S a)->(∀ a,S a->∀ b ∈ bF ins rows a,S b)->∀ a ∈ L,S a
  le:at' <= L.length
theorem Y7 {C:Addr}{ins:Nat}{rows:List Row}{outs:List Int}(hs:ins + rows.length < 64) (hl:outs.length <= 100) (hr:RowsOk ins rows) (ho:∀ a ∈ outs,0 <= a /\ a < ((ins + rows.length:Nat):Int)) :
    gC C [.int ins,.lst (rows.map Row.d),LI outs]=some (LI (lN ins rows outs)):=by
  refine Z22 ?_
  unfold rZ
  refine oC (d:=.lst []) rfl ?_
  refine C3 (ds:=outs.map D.int) rfl (fun i env=>∃ a,env=[some (false,.int ins),some (false,.lst (rows.map Row.d)),some (false,LI outs),some (true,LI (cI [] (outs.take i))),a,none,none]) ⟨none,rfl⟩ ?_ ?_
  . rintro i d env R hd ⟨a,rfl⟩ hR
    obtain⟨x,hx,rfl⟩:=cR hd
    refine⟨_,rfl,?_⟩
    have hlen:(cI [] (outs.take i)).length <= 1000:=by
      have:=jK (xs:=outs.take i) (ks:=[])
      rw [List.length_take,List.length_nil] at this
      omega
    refine wEq (wW (L:=cI [] (outs.take i)) (x:=x) (b:=false) rfl rfl hlen) (hR _ ⟨some (false,.int x),?_⟩)
    rw [jY hx]
    rfl
  rintro env ⟨a,rfl⟩
  rw [List.length_map,List.take_length]
  refine oC (d:=.int 0) rfl ?_
  refine Z1Q (m:=ins + rows.length) (fun m env=>∃ L at' a b,Z3E ins rows outs at' L /\ m + at'=ins + rows.length /\ env=[some (false,.int ins),some (false,.lst (rows.map Row.d)),some (false,LI outs),some (true,LI L),a,some (true,.int (at':Nat)),b])
    ⟨cI [] outs,0,a,none,⟨gT List.nodup_nil,fun a ha=>mem_addAll.mpr (.inr ha),fun i a h=>(by omega),fun S h1 _ a ha=>h1 a ((mem_addAll.mp ha).elim (fun z=>(by cases z)) id),Nat.zero_le _⟩,by omega,rfl⟩ ?_
  rintro m env ⟨L,at',a,b,hW,hm,rfl⟩
  have hbd:∀ a ∈ L,0 <= a /\ a < ((ins + rows.length:Nat):Int):=hW.least _ ho fun a ha b hb=>by have:=iZ hr hb;omega
  have hLl:=jT _ _ hW.nd hbd
  have el:fN [.lst (L.map D.int)]=some (.int (L.length:Int)):=by simp only [fN,List.length_map]
  by_cases hend:at' < L.length
  . right
    have hg:=List.getElem?_eq_getElem hend
    generalize hx:L[at']=x at hg
    have hxb:=hbd x (List.mem_of_getElem? hg)
    have lg:=Y8 (C:=C) (ins:=ins) (rows:=rows) (w:=x) hxb.2
    have hll:=jH (ins:=ins) (rows:=rows) (w:=x)
    have ci:(at':Int) < (L.length:Int):=by omega
    have ea:atI (L.map D.int) (at':Int)=some (.int x):=by
      rw [jJ (by omega) ci]
      exact congrArg (fun z=>some (D.int z)) (iB hg rfl)
    refine⟨by simp only [LI];clear lg hW hbd hr ho;walk_at "ev",?_⟩
    refine C3 (ds:=(bF ins rows x).map D.int) ?_ (fun j env=>∃ b,env=[some (false,.int ins),some (false,.lst (rows.map Row.d)),some (false,LI outs),some (true,LI (cI L ((bF ins rows x).take j))),a,some (true,.int (at':Nat)),b]) ⟨b,rfl⟩ ?_ ?_
    . refine eS (aZ (xs:=[.int ins,.lst (rows.map Row.d),.int x]) ?_ lg)
      simp only [LI]
      clear lg hW hbd hr ho
      walk_at "ev"
    . rintro j d env R hd ⟨b,rfl⟩ hR
      obtain⟨y,hy,rfl⟩:=cR hd
      refine⟨_,rfl,?_⟩
      have hlen:(cI L ((bF ins rows x).take j)).length <= 1000:=by
        have:=jK (xs:=(bF ins rows x).take j) (ks:=L)
        rw [List.length_take] at this
        omega
      refine wEq (wW (L:=cI L ((bF ins rows x).take j)) (x:=y) (b:=false) rfl rfl hlen) (hR _ ⟨some (false,.int y),?_⟩)
      rw [jY hy]
      rfl
    . rintro env ⟨b,rfl⟩
      rw [List.length_map,List.take_length]
      refine Z1y (d:=.int ((at' + 1:Nat):Int)) (by rw [show ((at' + 1:Nat):Int)=(at':Int) + 1 by omega];rfl) ?_
      obtain⟨t,ht⟩:=sK (xs:=bF ins rows x) (ks:=L)
      refine⟨m - 1,by omega,cI L (bF ins rows x),at' + 1,a,b,⟨gT hW.nd,fun a ha=>mem_addAll.mpr (.inl (hW.out a ha)),fun i c hi hc d hd=>?_,fun S s1 s2 c hc=>?_,?_⟩,by omega,rfl⟩
      . have hil:i < L.length:=by omega
        rw [ht,List.getElem?_append_left hil] at hc
        by_cases hie:i=at'
        . subst hie
          rw [hg] at hc
          cases hc
          exact mem_addAll.mpr (.inr hd)
        . exact mem_addAll.mpr (.inl (hW.cl i c (by omega) hc d hd))
      . rcases mem_addAll.mp hc with z | z
        . exact hW.least S s1 s2 c z
        . exact s2 x (hW.least S s1 s2 x (List.mem_of_getElem? hg)) c z
      . rw [ht,List.length_append];omega
  . left
    have ci:¬ (at':Int) < (L.length:Int):=by omega
    refine⟨by simp only [LI];clear hW hbd hr ho;walk_at "ev",?_⟩
    have hN:NeedL ins rows outs L:=⟨hW.nd,hW.out,fun c hc d hd=>by
      obtain⟨i,hi⟩:=List.getElem?_of_mem hc
      have:=(List.getElem?_eq_some_iff.mp hi).1
      exact hW.cl i c (by omega) hi d hd,hW.least⟩
    have hsrt:lN ins rows outs=lQ L:=(rN hr ho).sort hN
    refine Z0r (d:=LI (lN ins rows outs)) (kB (xs:=[LI L]) rfl ?_) rfl
    unfold qO LI
    simp only [pB]
    rw [if_pos (by omega),hsrt]
theorem tX {C:Addr}{ins:Nat}{rows:List Row}{w:Int}(h1:w < ((ins + rows.length:Nat):Int)):cZ C [.int ins,.lst (rows.map Row.d),.int w]=some (LI (cP ins rows w)):=by
  refine bZ ?_
  show mE C [some (false,.int ins),some (false,.lst (rows.map Row.d)),some (false,.int w)]=_
  unfold mE cP
  by_cases h:w < (ins:Int)
  . have h':¬ (ins:Int) <= w:=by omega
    rw [if_pos h]
    exact sNo (by walk_at "ev") rfl
  . have h':(ins:Int) <= w:=by omega
    have hk:(w - (ins:Int)).toNat < rows.length:=by omega
    have hr1:=List.getElem?_eq_getElem hk
    generalize rows[(w - (ins:Int)).toNat]=r at hr1
    have ea:=oB hr1 (a:=w - (ins:Int)) (by omega)
    rw [if_neg h,hr1]
    cases r with
    | fix b =>
      have e1:=Z0D
      simp only [Row.d] at ea
      refine L5 (by walk_at "ev") (tN ?_)
      simp only [LI,List.map_cons,List.map_nil]
      walk_at "ev"
    | not a =>
      have e1:=L3
      simp only [Row.d] at ea
      exact sNo (by walk_at "ev") rfl
    | bin k a b =>
      have e1:=L4 k
      simp only [Row.d] at ea
      exact sNo (by walk_at "ev") rfl
theorem uF (fs:List Flt):flats (fs.map Flt.d)=true:=jA fun d hd=>by
  obtain⟨f,_,rfl⟩:=List.mem_map.mp hd;exact sC f
theorem rC {i j:Nat}{f:En->Option D}{env:En}{xs ys:List D}(e1:env[j]? = some (some (true,.lst xs))) (e2:f env=some (.lst ys)) (h1:flats xs=true) (h2:xs.length + ys.length <= 1000):kZ i j f env=.next (env.set i (some (true,.lst (xs ++ ys)))):=by
  unfold kZ;simp only [e1,e2,h1,h2,and_self,if_true]
theorem Y9 {C:Addr}{ins:Nat}{rows:List Row}{outs N:List Int}(hr:RowsOk ins rows) (nb:∀ a ∈ N,0 <= a /\ a < ((ins + rows.length:Nat):Int)) (nl:N.length < 64) (ln:gC C [.int ins,.lst (rows.map Row.d),LI outs]=some (LI N)) :
    fJ C [.int ins,.lst (rows.map Row.d),LI outs]=some (.lst ((N.flatMap (bY ins rows)).map Flt.d)):=by
  refine bZ ?_
  unfold sB
  refine kK (d:=.lst []) rfl ?_
  refine lM (ds:=N.map D.int) (eS (aZ (xs:=[.int ins,.lst (rows.map Row.d),LI outs]) rfl ln))
    (fun i env=>∃ a b c,env=[some (false,.int ins),some (false,.lst (rows.map Row.d)),some (false,LI outs),some (true,.lst (((N.take i).flatMap (bY ins rows)).map Flt.d)),a,b,c]) ⟨none,none,none,rfl⟩ ?_ ?_
  . rintro i d env hd ⟨a,b,c,rfl⟩
    obtain⟨w,hw,rfl⟩:=cR hd
    have hwb:=nb w (List.mem_of_getElem? hw)
    have hil:i < N.length:=(List.getElem?_eq_some_iff.mp hw).1
    have fl:=nY (ins:=ins) (rows:=rows) (N.take i)
    rw [List.length_take] at fl
    rw [uG hw]
    generalize hB:(N.take i).flatMap (bY ins rows)=B at *
    have hBl:(B.map Flt.d).length <= 400:=by rw [List.length_map];omega
    have hbl:=gD (ins:=ins) (rows:=rows) (w:=w)
    have hll:=jH (ins:=ins) (rows:=rows) (w:=w)
    have bw:=tX (C:=C) (ins:=ins) (rows:=rows) (w:=w) hwb.2
    have lw:=Y8 (C:=C) (ins:=ins) (rows:=rows) (w:=w) hwb.2
    have c1:dB [4] (dP (aP (cZ C) [] (aC (aB 0) (aC (aB 1) (aC (aB 4) aL))))) fTT (iM (aC (fC (.str "wire")) (aC (aW (aB 1)) (aC (aW (aB 0)) aL)))) [some (false,.int ins),some (false,.lst (rows.map Row.d)),some (false,LI outs),some (true,.lst (B.map Flt.d)),some (false,.int w),b,c]=some (.lst (((cP ins rows w).map fun b=>Flt.wire w b).map Flt.d)):=by
      rw [gJ D.int (fun b=>(Flt.wire w b).d) (xs:=cP ins rows w) (eS (aZ (xs:=[.int ins,.lst (rows.map Row.d),.int w]) rfl bw)) (by omega) (fun x _=>rfl),List.map_map]
      rfl
    have h1:=rC (i:=3) (j:=3) (env:=[some (false,.int ins),some (false,.lst (rows.map Row.d)),some (false,LI outs),some (true,.lst (B.map Flt.d)),some (false,.int w),b,c]) rfl c1 (uF B) (by simp only [List.length_map] at *;omega)
    rw [<- List.map_append] at h1
    generalize hB2:B ++ (cP ins rows w).map (fun b=>Flt.wire w b)=B2 at *
    have hB2l:(B2.map Flt.d).length <= 410:=by rw [<- hB2,List.length_map,List.length_append,List.length_map];rw [List.length_map] at hBl;omega
    obtain⟨env',h2,⟨x,y,rfl⟩⟩:=wS (rs:=[]) (src:=sB1 mK (aC (aP (gU C) [] (aC (aB 0) (aC (aB 1) (aC (aB 4) aL)))) aL)) (t:=gtT [5,6]) (g:=kZ 3 3 (dB [4,5] (dP (aP (cZ C) [] (aC (aB 0) (aC (aB 1) (aC (aB 6) aL))))) fTT (iM (aC (fC (.str "leg")) (aC (aW (aB 1)) (aC (aW (aB 2)) (aC (aW (aB 0)) aL)))))))
      (env:=[some (false,.int ins),some (false,.lst (rows.map Row.d)),some (false,LI outs),some (true,.lst (B2.map Flt.d)),some (false,.int w),b,c]) (ds:=((bF ins rows w).map D.int).mapIdx fun i d=>.tup [.int i,d]) (iI (xs:=[LI (bF ins rows w)]) (bG (aZ (xs:=[.int ins,.lst (rows.map Row.d),.int w]) rfl lw) rfl) (by simp only [mK,LI]))
      (fun j env=>∃ x y,env=[some (false,.int ins),some (false,.lst (rows.map Row.d)),some (false,LI outs),some (true,.lst ((B2 ++ bO ins rows w 0 ((bF ins rows w).take j)).map Flt.d)),some (false,.int w),x,y]) ⟨b,c,by simp [PD.fz,bO]⟩ (by
        rintro j d env hd ⟨x,y,rfl⟩
        obtain⟨e,he,rfl⟩:=nE hd
        obtain⟨a',ha,rfl⟩:=cR he
        have hab:=iZ hr (List.mem_of_getElem? ha)
        have ba:=tX (C:=C) (ins:=ins) (rows:=rows) (w:=a') (by omega)
        have hbl2:=gD (ins:=ins) (rows:=rows) (w:=a')
        have hfl:=iC (ins:=ins) (rows:=rows) (w:=w) ((bF ins rows w).take j) 0
        rw [List.length_take] at hfl
        rw [mB ha,<- List.append_assoc]
        generalize hB3:B2 ++ bO ins rows w 0 ((bF ins rows w).take j)=B3 at *
        have hB3l:(B3.map Flt.d).length <= 450:=by rw [<- hB3,List.length_map,List.length_append];rw [List.length_map] at hB2l;omega
        have c2:dB [4,5] (dP (aP (cZ C) [] (aC (aB 0) (aC (aB 1) (aC (aB 6) aL))))) fTT (iM (aC (fC (.str "leg")) (aC (aW (aB 1)) (aC (aW (aB 2)) (aC (aW (aB 0)) aL))))) [some (false,.int ins),some (false,.lst (rows.map Row.d)),some (false,LI outs),some (true,.lst (B3.map Flt.d)),some (false,.int w),some (false,.int (j:Nat)),some (false,.int a')]=some (.lst (((cP ins rows a').map fun b=>Flt.leg w (j:Int) b).map Flt.d)):=by
          rw [gJ D.int (fun b=>(Flt.leg w (j:Int) b).d) (xs:=cP ins rows a') (eS (aZ (xs:=[.int ins,.lst (rows.map Row.d),.int a']) rfl ba)) (by omega) (fun x _=>rfl),List.map_map]
          rfl
        have h3:=rC (i:=3) (j:=3) (env:=[some (false,.int ins),some (false,.lst (rows.map Row.d)),some (false,LI outs),some (true,.lst (B3.map Flt.d)),some (false,.int w),some (false,.int (j:Nat)),some (false,.int a')]) rfl c2 (uF B3) (by simp only [List.length_map] at *;omega)
        rw [<- List.map_append] at h3
        exact⟨_,_,rfl,h3,some (false,.int j),some (false,.int a'),rfl⟩)
    rw [List.length_mapIdx,List.length_map,List.take_length] at h2
    refine⟨_,_,rfl,Z0C h1 h2,some (false,.int w),x,y,?_⟩
    unfold bY
    rw [<- hB2,List.append_assoc]
  . rintro env ⟨a,b,c,rfl⟩
    rw [List.length_map,List.take_length]
    rfl
theorem Z2t {w w' l l' b:Int}:eqN 8 (.tup [.str "leg",.int w',.int l',.int b]) (.tup [.str "leg",.int w,.int l,.int b])=some (decide (w'=w /\ l'=l)):=by
  have e1:=Z3X
  by_cases h1:w'=w
  . by_cases h2:l'=l
    . subst h1;subst h2;walk_at "ev"
    . subst h1;walk_at "ev";simp
  . walk_at "ev";try simp [h1]
theorem Z0p {w w' l b b':Int}:eqN 8 (.tup [.str "wire",.int w',.int b]) (.tup [.str "leg",.int w,.int l,.int b'])=some false:=by
  have e1:=Z2U
  walk_at "ev"
  try simp
theorem zY {C:Addr}{n:Nat}{r:Row}{w l:Int}{vs:List Int}{f:Flt}(hl:l=0 /\ 0 < r.ws.length \/ l=1 /\ 1 < r.ws.length) (hw:∀ a ∈ r.ws,0 <= a /\ a < vs.length) (hb:∀ w l b,f=.leg w l b->b=0 \/ b=1) :
    jG C [LI vs,r.d,.int w,.int l,f.d,.int (aS n)]=some (.int (oV r w l vs (aS n) f)):=by
  have key:aW (fIx (aB 0) (fIx (aB 1) (fI0 (fun i j=>.int (i + j)) (fC (.int 1)) (aB 3)))) [some (false,LI vs),some (false,r.d),some (false,.int w),some (false,.int l),some (false,f.d),some (false,.int (aS n))]=some (.int (nth vs (nth r.ws l))):=by
    cases r with
    | fix b=>simp [Row.ws] at hl
    | not a =>
      rcases hl with ⟨rfl,_⟩ | ⟨_,h⟩
      . have ha:=hw a (by simp [Row.ws])
        have ea:=jJ ha.1 ha.2
        have en:nth (Row.not a).ws 0=a:=rfl
        simp only [LI,Row.d]
        walk_at "ev"
      . simp [Row.ws] at h
    | bin k a b =>
      rcases hl with ⟨rfl,_⟩ | ⟨rfl,_⟩
      . have ha:=hw a (by simp [Row.ws])
        have ea:=jJ ha.1 ha.2
        have en:nth (Row.bin k a b).ws 0=a:=rfl
        simp only [LI,Row.d]
        walk_at "ev"
      . have ha:=hw b (by simp [Row.ws])
        have ea:=jJ ha.1 ha.2
        have en:nth (Row.bin k a b).ws 1=b:=rfl
        simp only [LI,Row.d]
        walk_at "ev"
  refine bZ ?_
  unfold xS
  cases f with
  | none =>
    refine sNo ?_ (fV key)
    simp only [Flt.d]
    rfl
  | wire w' b =>
    have e1:=Z0p (w:=w) (w':=w') (l:=l) (b:=b) (b':=b)
    refine sNo ?_ (fV key)
    simp only [Flt.d,enStart,List.map_cons,List.map_nil,List.length_cons,List.length_nil,List.replicate,List.append_nil,ev_And,ev_IsN,ev_Eq,ev_var,ev_Tup,ev_Cons,ev_C,ev_Nil,ev_Ix,List.getElem?_cons_zero,List.getElem?_cons_succ,Option.join_some,Option.map_some,atI_m3]
    exact e1
  | leg w' l' b =>
    have e1:=Z2t (w:=w) (w':=w') (l:=l) (l':=l') (b:=b)
    have e2:kC (sX true (aB 4)) (fEq (aB 4) (iM (aC (fC (.str "leg")) (aC (aB 2) (aC (aB 3) (aC (fIx (aB 4) (fC (.int (-1)))) aL)))))) [some (false,LI vs),some (false,r.d),some (false,.int w),some (false,.int l),some (false,(Flt.leg w' l' b).d),some (false,.int (aS n))]=some (decide (w'=w /\ l'=l)):=by
      simp only [Flt.d,ev_And,ev_IsN,ev_Eq,ev_var,ev_Tup,ev_Cons,ev_C,ev_Nil,ev_Ix,List.getElem?_cons_zero,List.getElem?_cons_succ,Option.join_some,Option.map_some,atI_m4]
      exact e1
    by_cases h:w'=w /\ l'=l
    . rw [decide_eq_true h] at e2
      have mo:IntMulOk b (aS n):=by rcases hb _ _ _ rfl with z | z <;> (subst z;exact jU (by decide) (by decide))
      refine L5 e2 (tN ?_)
      simp only [oV,if_pos h,Flt.d,Int.mul_comm (aS n) b]
      clear e1 e2 key
      walk_at "ev"
    . rw [decide_eq_false h] at e2
      refine sNo e2 ?_
      simp only [oV,if_neg h]
      exact fV key
theorem Z0 {C:Addr}{n:Nat}{r:Row}{w k:Int}{vs:List Int}{f:Flt}(hr:RowOk k r) (hn:k <= vs.length) (hv:∀ a,IsT n (nth vs a)) (hb:∀ w l b,f=.leg w l b->b=0 \/ b=1) (hf:∀ w' l' b,f=.leg w' l' b->w'=w->0 <= l' /\ l' < r.ws.length) :
    eO C [LI vs,r.d,.int w,f.d,.int (aS n)]=some (.int (iA r (legs r w vs (aS n) f) (aS n))):=by
  have hw:∀ a ∈ r.ws,0 <= a /\ a < vs.length:=fun a ha=>by have:=hr.ws a ha;omega
  cases r with
  | fix b =>
    have e1:=Z0D
    have mo:IntMulOk b (aS n):=by rcases (show b=0 \/ b=1 from hr) with z | z <;> (subst z;exact jU (by decide) (by decide))
    unfold eO lH
    simp only [Row.d,iA,Int.mul_comm (aS n) b]
    clear hv hb hf hw hr
    walk_at "ev"
  | not a =>
    have h0:=zY (C:=C) (n:=n) (w:=w) (l:=0) (f:=f) (.inl ⟨rfl,by simp [Row.ws]⟩) hw hb
    have k0:=oU (w:=w) (l:=0) (o:=aS n) (vs:=vs) (.inl ⟨rfl,by simp [Row.ws]⟩) hf
    have e1:=L3
    have e2:=Z3W
    have g1:=Z1b (Y3 (r:=.not a) (w:=w) (l:=0) hv hb)
    have g2:iA (.not a) (legs (.not a) w vs (aS n) f) (aS n)=aS n - oV (.not a) w 0 vs (aS n) f:=by rw [<- g1,<- k0];rfl
    rw [g2]
    generalize oV (Row.not a) w 0 vs (aS n) f=x at *
    unfold eO lH
    simp only [Row.d] at h0 ⊢
    clear g1 g2 k0 hf hb hv hr hw
    walk_at "ev"
  | bin kd a b =>
    have h0:=zY (C:=C) (n:=n) (w:=w) (l:=0) (f:=f) (.inl ⟨rfl,by simp [Row.ws]⟩) hw hb
    have k0:=oU (w:=w) (l:=0) (o:=aS n) (vs:=vs) (.inl ⟨rfl,by simp [Row.ws]⟩) hf
    have h1:=zY (C:=C) (n:=n) (w:=w) (l:=1) (f:=f) (.inr ⟨rfl,by simp [Row.ws]⟩) hw hb
    have k1:=oU (w:=w) (l:=1) (o:=aS n) (vs:=vs) (.inr ⟨rfl,by simp [Row.ws]⟩) hf
    have e1:=L4 kd
    have e2:=Z2X kd
    have e3:=Z2Y kd
    have e4:=Z2W kd
    have g:iA (.bin kd a b) (legs (.bin kd a b) w vs (aS n) f) (aS n)=kdT kd (oV (.bin kd a b) w 0 vs (aS n) f) (oV (.bin kd a b) w 1 vs (aS n) f):=by
      rw [<- k0,<- k1]
      cases kd <;> rfl
    rw [g]
    clear g k0 k1 hf hb hv hr hw
    generalize oV (Row.bin kd a b) w 0 vs (aS n) f=x at *
    generalize oV (Row.bin kd a b) w 1 vs (aS n) f=y at *
    unfold eO lH
    simp only [Row.d] at h0 h1 ⊢
    cases kd with
    | and=>walk_at "ev";rfl
    | or=>walk_at "ev";rfl
    | xor=>walk_at "ev";rfl
theorem xK {C:Addr}{ins:Nat}{rows:List Row}{f:Flt}(hi:ins <= 8) (hs:ins + rows.length <= 1000) (hr:RowsOk ins rows) (hf:FltOk ins rows f) :
    fI C [.int ins,.lst (rows.map Row.d),f.d]=some (LI (bA ins rows f)):=by
  have hN:=iE ins rows f
  have hbt:=lT hr hf
  obtain⟨pb0,pb1⟩:=uW hi
  have pbn:2 ^ ins <= 256:=Int.ofNat_le.mp pb1
  have p1:dS 1 (ins:Int):=mJ (by omega) (by omega)
  have p2:dS 1 ((1:Int) * 2 ^ (ins:Int).toNat):=by rw [kJ];exact mJ pb0 (Int.le_trans pb1 (by decide))
  have ep:(1:Int) * 2 ^ ((1:Int) * 2 ^ (ins:Int).toNat).toNat - 1=aS (2 ^ ins):=by rw [kJ];exact I0 ins
  refine bZ ?_
  unfold rY
  have el:fN [.lst (rows.map Row.d)]=some (.int (rows.length:Int)):=by simp only [fN,List.length_map]
  refine kK (d:=.int (aS (2 ^ ins))) (by clear hbt pb0 pb1 pbn hN hi hs hr hf;walk_at "ev") ?_
  refine kK (d:=.lst []) (by walk_at "ev") ?_
  refine lM (ds:=(List.range (ins + rows.length)).map fun (k:Nat)=>.int (k:Int)) (iI (xs:=[.int ((ins:Int) + (rows.length:Int))]) (by clear hbt pb0 pb1 pbn hN hi hs hr hf p1 p2 ep;walk_at "ev") (Z23 (by omega) hs))
    (fun i env=>∃ s,env=[some (false,.int ins),some (false,.lst (rows.map Row.d)),some (false,f.d),some (true,.int (aS (2 ^ ins))),some (true,LI ((bA ins rows f).take i)),s]) ⟨none,rfl⟩ ?_ ?_
  . rintro i d env hd ⟨s,rfl⟩
    obtain⟨hin,rfl⟩:=kM hd
    have hil:i < (bA ins rows f).length:=by omega
    have htl:((bA ins rows f).take i).length=i:=by rw [List.length_take];omega
    have cont:∀ v,(bA ins rows f)[i]? = some (bK v i (aS (2 ^ ins)) f)->rIf (kC (sX true (aB 2)) (kC (fEq (fIx (aB 2) (fC (.int 0))) (fC (.str "wire"))) (fEq (fIx (aB 2) (fC (.int 1))) (aB 5)))) (wR 4 (aB 5) (fI2 IntMulOk (fun i j=>.int (i * j)) (fIx (aB 2) (fC (.int 2))) (aB 3))) bX
        [some (false,.int ins),some (false,.lst (rows.map Row.d)),some (false,f.d),some (true,.int (aS (2 ^ ins))),some (true,.lst (((bA ins rows f).take i).map D.int ++ [.int v])),some (false,.int i)] =
        .next [some (false,.int ins),some (false,.lst (rows.map Row.d)),some (false,f.d),some (true,.int (aS (2 ^ ins))),some (true,LI ((bA ins rows f).take (i + 1))),some (false,.int i)]:=by
      intro v hv
      rw [cB hv]
      generalize (bA ins rows f).take i=vs at *
      cases f with
      | none=>simp only [Flt.d,bK,LI,List.map_append,List.map_cons,List.map_nil];rfl
      | leg w l b =>
        have e1:=Z2V
        simp only [Flt.d,bK,LI,List.map_append,List.map_cons,List.map_nil]
        clear hbt pb0 pb1 pbn hN hi hs hr hf p1 p2 ep hv hil hd
        walk_at "ev"
      | wire w b =>
        have e1:=Z3V
        by_cases hw:w=(i:Int)
        . have e2:flats (vs.map D.int ++ [.int v])=true:=by have:=gI (vs ++ [v]);simpa using this
          have e3:(vs.map D.int ++ [D.int v]).set i (.int (b * aS (2 ^ ins)))=vs.map D.int ++ [.int (b * aS (2 ^ ins))]:=by
            rw [List.set_append];simp [htl]
          have e4:ixN (vs.map D.int ++ [D.int v]).length (i:Int)=some i:=by
            rw [Z4 (by omega) (by simp;omega)];simp
          have mo:IntMulOk b (aS (2 ^ ins)):=by rcases hf.w _ _ rfl with z | z <;> (subst z;exact jU (by decide) (by decide))
          refine L9 (by simp only [Flt.d];clear hbt pb0 pb1 pbn hN hi hs hr hf p1 p2 ep hv hil hd;walk_at "ev") ?_
          simp only [bK,hw,if_true,LI,List.map_append,List.map_cons,List.map_nil,Int.mul_comm (aS (2 ^ ins)) b]
          unfold wR
          simp only [Flt.d,ev_Ix,ev_var,ev_C,ev_I2',mo,List.getElem?_cons_zero,List.getElem?_cons_succ,Option.join_some,Option.map_some,atI_2,e4,e2,PD.flat,and_self,if_true,e3,List.set_cons_succ,List.set_cons_zero]
        . simp only [Flt.d,bK,hw,if_false,LI,List.map_append,List.map_cons,List.map_nil]
          clear hbt pb0 pb1 pbn hN hi hs hr hf p1 p2 ep hv hil hd
          walk_at "ev"
    have hol:(((bA ins rows f).take i).map D.int).length <= 1000:=by rw [List.length_map];omega
    by_cases h1:i < ins
    . have c1:(i:Int) < (ins:Int):=by omega
      have hv:=yX (rows:=rows) (f:=f) h1
      have esum:fB1 vY (aC (dB [5] (sB1 hG (aC (fI2 dS (fun i j=>.int (i * 2 ^ j.toNat)) (fC (.int 1)) (aB 0)) aL)) (fEq (fI2 (fun _ j=>0 < j) (fun i j=>.int (i % j)) (fI2 fE (fun i j=>.int (i / j)) (aB 0) (fI2 dS (fun i j=>.int (i * 2 ^ j.toNat)) (fC (.int 1)) (aB 1))) (fC (.int 2))) (fC (.int 1))) (fI2 dS (fun i j=>.int (i * 2 ^ j.toNat)) (fC (.int 1)) (aB 0))) aL)
          [some (false,.int ins),some (false,.lst (rows.map Row.d)),some (false,f.d),some (true,.int (aS (2 ^ ins))),some (true,LI ((bA ins rows f).take i)),some (false,.int i)]=some (.int (tab (2 ^ ins) fun g=>decide (g / 2 ^ i % 2=1))):=by
        have ec:=lJ (fr:=[5]) (fc:=fEq (fI2 (fun _ j=>0 < j) (fun i j=>.int (i % j)) (fI2 fE (fun i j=>.int (i / j)) (aB 0) (fI2 dS (fun i j=>.int (i * 2 ^ j.toNat)) (fC (.int 1)) (aB 1))) (fC (.int 2))) (fC (.int 1))) (fe:=fI2 dS (fun i j=>.int (i * 2 ^ j.toNat)) (fC (.int 1)) (aB 0))
          (src:=sB1 hG (aC (fI2 dS (fun i j=>.int (i * 2 ^ j.toNat)) (fC (.int 1)) (aB 0)) aL)) (env:=[some (false,.int ins),some (false,.lst (rows.map Row.d)),some (false,f.d),some (true,.int (aS (2 ^ ins))),some (true,LI ((bA ins rows f).take i)),some (false,.int i)])
          (fun (k:Nat)=>D.int (k:Int)) (fun (k:Nat)=>D.int ((1:Int) * 2 ^ (k:Int).toNat)) (fun g=>decide (g / 2 ^ i % 2=1)) (xs:=List.range (2 ^ ins))
          (iI (xs:=[.int ((1:Int) * 2 ^ (ins:Int).toNat)]) (by clear hbt pb0 pb1 pbn hN hi hs hr hf p2 ep hv hil hd cont hol htl;walk_at "ev") (Z23 (kJ ins) (by omega))) (by rw [List.length_range];omega) ?_ ?_
        . refine kB (bG ec rfl) ?_
          have e9:(((List.range (2 ^ ins)).filter fun g=>decide (g / 2 ^ i % 2=1)).map fun (k:Nat)=>D.int ((1:Int) * 2 ^ (k:Int).toNat))=((((List.range (2 ^ ins)).filter fun g=>decide (g / 2 ^ i % 2=1)).map fun (k:Nat)=>((1:Int) * 2 ^ (k:Int).toNat)).map D.int):=by rw [List.map_map];rfl
          rw [e9,yZ,C7]
        . intro g hg
          have hg':=List.mem_range.mp hg
          have p3:dS 1 (i:Int):=mJ (by omega) (by omega)
          have d1:fE (g:Int) ((1:Int) * 2 ^ (i:Int).toNat):=yE (by omega)
          have q2:(0:Int) < 2:=by decide
          have ee:((g:Int) / ((1:Int) * 2 ^ (i:Int).toNat) % 2=1)=(g / 2 ^ i % 2=1):=by
            rw [kJ]
            apply propext
            constructor
            . intro z;exact Int.ofNat.inj (by simpa using z)
            . intro z;have:=congrArg (fun (n:Nat)=>(n:Int)) z;simpa using this
          show fEq _ (fC (.int 1)) [some (false,.int (g:Int)),some (false,.int (i:Int))]=_
          clear hbt pb0 pb1 pbn hN hi hs hr hf p1 p2 ep hv hil hd cont hol htl
          walk_at "ev"
        . intro g hg _
          have hg':=List.mem_range.mp hg
          have p3:dS 1 (g:Int):=mJ (by omega) (by omega)
          show fI2 dS _ (fC (.int 1)) (aB 0) [some (false,.int (g:Int)),some (false,.int (i:Int))]=_
          clear hbt pb0 pb1 pbn hN hi hs hr hf p1 p2 ep hv hil hd cont hol htl
          walk_at "ev"
      refine⟨_,_,rfl,Z0C (L9 ?_ (jN esum rfl hol)) (cont _ hv),some (false,.int i),rfl⟩
      clear hbt pb0 pb1 pbn hN hi hs hr hf p1 p2 ep hv hil hd cont hol htl esum
      walk_at "ev"
    . have c1:¬ (i:Int) < (ins:Int):=by omega
      have hk:i - ins < rows.length:=by omega
      have hr1:=List.getElem?_eq_getElem hk
      generalize rows[i - ins]=r at hr1
      have hv:=wH (ins:=ins) (f:=f) hr1
      rw [show ins + (i - ins)=i by omega] at hv
      have hrow:=hr _ r hr1
      rw [show ins + (i - ins)=i by omega] at hrow
      have ea:=Z1s hr1 (a:=(i:Int) - (ins:Int)) (by omega)
      have eg:=Z0 (C:=C) (n:=2 ^ ins) (w:=(i:Int)) (vs:=(bA ins rows f).take i) (f:=f) hrow (by rw [htl];omega) (fun a=>?_) hf.l (fun w' l' b e hw=>hf.leg w' l' b (i - ins) r e hr1 (by rw [hw];omega))
      . refine⟨_,_,rfl,Z0C (U5 ?_ (jN (d:=.int (iA r (legs r i ((bA ins rows f).take i) (aS (2 ^ ins)) f) (aS (2 ^ ins)))) ?_ rfl hol)) (cont _ hv),some (false,.int i),rfl⟩
        . clear hbt pb0 pb1 pbn hN hi hs hr hf p1 p2 ep hv hil hd cont hol htl eg ea
          walk_at "ev"
        . clear hbt pb0 pb1 pbn hN hi hs hr hf p1 p2 ep hv hil hd cont hol htl
          walk_at "ev"
      . by_cases ha:a.toNat < i
        . have:nth ((bA ins rows f).take i) a=nth (bA ins rows f) a:=by unfold nth;rw [List.getD,List.getD,List.getElem?_take_of_lt ha]
          rw [this];exact hbt a
        . have:nth ((bA ins rows f).take i) a=0:=by unfold nth;rw [List.getD,List.getElem?_eq_none (by omega)];rfl
          rw [this];exact rT _
  . rintro env ⟨s,rfl⟩
    rw [List.length_map,List.length_range,<- hN,List.take_length]
    rfl
theorem O4 {C:Addr}{ins:Nat}{rows:List Row}{outs:List Int}{f:Flt}(hi:ins <= 8) (hs:ins + rows.length <= 1000) (hr:RowsOk ins rows) (hf:FltOk ins rows f) (ho:∀ a ∈ outs,0 <= a /\ a < ((ins + rows.length:Nat):Int)) :
    eB C [.int ins,.lst (rows.map Row.d),LI outs,f.d]=some (.int (fF ins rows outs f)):=by
  have t0:fI C [.int ins,.lst (rows.map Row.d),.non]=some (LI (bA ins rows .none)):=xK (f:=.none) hi hs hr .no
  have t1:=xK (C:=C) hi hs hr hf
  have l0:=iE ins rows .none
  have l1:=iE ins rows f
  unfold fF
  generalize bA ins rows .none=A at *
  generalize bA ins rows f=B at *
  refine bZ ?_
  unfold pV
  refine kK (aZ (xs:=[.int ins,.lst (rows.map Row.d),.non]) rfl t0) ?_
  refine kK (aZ (xs:=[.int ins,.lst (rows.map Row.d),f.d]) rfl t1) ?_
  refine kK (d:=.int 0) (by walk_at "ev") ?_
  refine lM (ds:=outs.map D.int) (by rfl)
    (fun i env=>∃ a,env=[some (false,.int ins),some (false,.lst (rows.map Row.d)),some (false,LI outs),some (false,f.d),some (true,LI A),some (true,LI B),some (true,.int (nO A B (outs.take i))),a]) ⟨none,rfl⟩ ?_ ?_
  . rintro i d env hd ⟨a,rfl⟩
    obtain⟨x,hx,rfl⟩:=cR hd
    have hx2:=ho x (List.mem_of_getElem? hx)
    have ea:=jJ (vs:=A) (a:=x) hx2.1 (by rw [l0];exact hx2.2)
    have eb:=jJ (vs:=B) (a:=x) hx2.1 (by rw [l1];exact hx2.2)
    refine⟨_,_,rfl,D0 (d:=.int (Builtin.bitOr (nO A B (outs.take i)) (Builtin.bitXor (nth A x) (nth B x)))) ?_,some (false,.int x),by rw [qW hx];rfl⟩
    simp only [LI]
    clear hd hx t0 t1 ho hr hf
    walk_at "ev"
  . rintro env ⟨a,rfl⟩
    rw [List.length_map,List.take_length]
    rfl
noncomputable def qM (tell:Flt->Int) (st:List Int × List Flt) (f:Flt):List Int × List Flt:=if tell f=0 \/ tell f ∈ st.1 then st else (st.1 ++ [tell f],st.2 ++ [f])
noncomputable def qD (tell:Flt->Int) (FS:List Flt) (i:Nat):List Int × List Flt:=(FS.take i).foldl (qM tell) ([],[])
theorem uA {tell:Flt->Int}{FS:List Flt}{i:Nat}{f:Flt}(h:FS[i]? = some f):qD tell FS (i + 1)=qM tell (qD tell FS i) f:=by
  unfold qD
  rw [cB h,List.foldl_append]
  rfl
theorem qN {tell:Flt->Int}{FS:List Flt}:∀ (i:Nat),i <= FS.length->(qD tell FS i).1.length=(qD tell FS i).2.length /\ (qD tell FS i).1.length <= i /\ ∀ t,t ∈ (qD tell FS i).1 ↔ t ≠ 0 /\ ∃ f ∈ FS.take i,tell f=t
  | 0,_=>by simp [qD]
  | i + 1,h=>by
    have hx:=List.getElem?_eq_getElem (show i < FS.length by omega)
    rw [uA hx,cB hx]
    obtain⟨h1,h2,h3⟩:=qN (tell:=tell) (FS:=FS) i (by omega)
    generalize qD tell FS i=st at *
    generalize FS[i]=f
    unfold qM
    by_cases hc:tell f=0 \/ tell f ∈ st.1
    . rw [if_pos hc]
      refine⟨h1,by omega,fun t=>?_⟩
      rw [h3 t]
      constructor
      . rintro⟨a,g,hg,e⟩
        exact⟨a,g,List.mem_append_left _ hg,e⟩
      . rintro⟨a,g,hg,e⟩
        rcases List.mem_append.mp hg with z | z
        . exact⟨a,g,z,e⟩
        . have z:g=f:=by simpa using z
          subst z
          rcases hc with y | y
          . exact absurd (e.symm.trans y) a
          . rw [e] at y;exact (h3 t).mp y
    . rw [if_neg hc]
      refine⟨by simp [h1],by simp;omega,fun t=>?_⟩
      rw [List.mem_append,h3 t]
      constructor
      . rintro (⟨a,g,hg,e⟩ | z)
        . exact⟨a,g,List.mem_append_left _ hg,e⟩
        . have z:t=tell f:=by simpa using z
          exact⟨fun y=>hc (.inl (z ▸ y)),f,by simp,z.symm⟩
      . rintro⟨a,g,hg,e⟩
        rcases List.mem_append.mp hg with z | z
        . exact .inl ⟨a,g,z,e⟩
        . have z:g=f:=by simpa using z
          subst z
          exact .inr (by simp [e])
noncomputable def vJ (ins:Nat) (rows:List Row) (outs:List Int):List Int × List Flt:=qD (fF ins rows outs) (dW ins rows outs) (dW ins rows outs).length
noncomputable def mD (h:List Int × List Flt):D:=.dk (h.1.map Sum.inl) (h.2.map Flt.d)
theorem B1 (fs:List Flt):flats (fs.map Flt.d)=true:=jA fun d hd=>by
  obtain⟨f,_,rfl⟩:=List.mem_map.mp hd;exact sC f
theorem K3 {C:Addr}{ins:Nat}{rows:List Row}{outs:List Int}(hi:ins <= 8) (hs:ins + rows.length < 64) (hl:outs.length <= 100) (hr:RowsOk ins rows) (ho:∀ a ∈ outs,0 <= a /\ a < ((ins + rows.length:Nat):Int)) :
    kO C [bQ C ins rows outs]=some (mD (vJ ins rows outs)):=by
  have af:=tE (C:=C) hs hl hr ho
  have fl:=mH hr ho
  have te:=wG (C:=C) (fs:=dW ins rows outs) hi (by omega) hr (fun f hf=>(nG hr f hf).1) (by omega) ho (by omega)
  unfold vJ
  generalize dW ins rows outs=FS at *
  refine bZ ?_
  unfold xQ
  refine kK (d:=.dk [] []) rfl ?_
  refine kK (aZ (xs:=[bQ C ins rows outs]) rfl af) ?_
  refine lM (ds:=FS.map fun f=>.tup [Flt.d f,.int (fF ins rows outs f)]) (iI (xs:=[.lst (FS.map Flt.d),LI (FS.map (fF ins rows outs))]) (bG rfl (bG (aZ (xs:=[bQ C ins rows outs,.lst (FS.map Flt.d)]) rfl te) rfl)) (by
      simp only [R6,LI,List.map_map]
      rw [wC]
      rfl))
    (fun i env=>i <= FS.length /\ ∃ a b,env=[some (false,bQ C ins rows outs),some (true,mD (qD (fF ins rows outs) FS i)),some (false,.lst (FS.map Flt.d)),a,b]) ⟨Nat.zero_le _,none,none,rfl⟩ ?_ ?_
  . rintro i d env hd ⟨hil,a,b,rfl⟩
    obtain⟨f,hf,rfl⟩:=cR hd
    have hlt:i < FS.length:=(List.getElem?_eq_some_iff.mp hf).1
    obtain⟨h1,h2,_⟩:=qN (tell:=fF ins rows outs) (FS:=FS) i hil
    rw [uA hf]
    generalize qD (fF ins rows outs) FS i=st at *
    have ff:=sC f
    refine⟨_,_,rfl,?_,by omega,some (false,f.d),some (false,.int (fF ins rows outs f)),rfl⟩
    show rIf _ _ _ [some (false,bQ C ins rows outs),some (true,mD st),some (false,.lst (FS.map Flt.d)),some (false,f.d),some (false,.int (fF ins rows outs f))]=_
    unfold qM
    by_cases hz:fF ins rows outs f=0
    . rw [if_pos (.inl hz)]
      refine U5 ?_ rfl
      simp only [ev_Not,ev_Eq,ev_var,ev_C,List.getElem?_cons_zero,List.getElem?_cons_succ,Option.join_some,Option.map_some,eqN_int,hz,decide_true,Bool.not_true]
    . refine L9 ?_ ?_
      . simp only [ev_Not,ev_Eq,ev_var,ev_C,List.getElem?_cons_zero,List.getElem?_cons_succ,Option.join_some,Option.map_some,eqN_int,hz,decide_false,Bool.not_false]
      . unfold Z0G
        simp only [List.getElem?_cons_zero,List.getElem?_cons_succ,mD,ev_var,Option.join_some,Option.map_some,keyOf]
        rw [if_pos ⟨by rw [List.length_map];omega,B1 st.2,ff⟩]
        by_cases hm:fF ins rows outs f ∈ st.1
        . rw [if_pos (by rw [nS];exact decide_eq_true hm),if_pos (.inr hm)]
        . rw [if_neg (by rw [nS];simp [hm]),if_neg (fun z=>z.elim hz hm)]
          simp
  . rintro env ⟨_,a,b,rfl⟩
    rw [List.length_map]
    rfl
noncomputable def lE (tests:List Int):Int:=tests.foldl (fun m t=>Builtin.bitOr m (1 * 2 ^ t.toNat)) 0
noncomputable def nT (marks:Int) (ks:List Int):Bool:=ks.all fun t=>!decide (Builtin.bitAnd t marks=0)
theorem uI:∀ (bs:List Bool),kD (bs.map D.bl)=some bs
  | []=>rfl
  | b :: bs=>by simp only [List.map_cons,kD,uI bs,Option.map_some]
theorem xX:∀ (bs:List Bool),flats (bs.map D.bl)=true
  | []=>rfl
  | b :: bs=>by simp only [List.map_cons,flats,PD.flat,xX bs,Bool.and_self]
theorem xN {C:Addr}{marks:Int}{h:List Int × List Flt}(hl:h.1.length <= 1000):fL C [.int marks,mD h]=some (.bl (nT marks h.1)):=by
  refine bZ (fV (kB (xs:=[.lst ((h.1.map fun t=>!decide (Builtin.bitAnd t marks=0)).map D.bl)]) (bG ?_ rfl) ?_))
  . have hc:dB [0] (fun _=>some ((h.1.map (Sum.inl:Int->Key)).map A1)) fTT (lI (iN (fEq (fI0 (fun i j=>.int (Builtin.bitAnd i j)) (aB 0) (aB 1)) (fC (.int 0))))) (wY [0] [some (false,.int marks),some (false,mD h)])=some (.lst ((h.1.map fun t=>!decide (Builtin.bitAnd t marks=0)).map D.bl)):=by
      rw [gJ D.int (fun t=>.bl (!decide (Builtin.bitAnd t marks=0))) (xs:=h.1) (by simp [A1,Function.comp_def]) hl (fun t _=>?_)]
      . simp [Function.comp_def]
      . show lI _ [some (false,.int t),some (false,.int marks)]=_
        simp only [ev_OfB,ev_Not,ev_Eq,ev_I0',ev_var,ev_C,List.getElem?_cons_zero,List.getElem?_cons_succ,Option.join_some,Option.map_some,eqN_int]
    show sD [0] 1 fTT _ [some (false,.int marks),some (false,mD h)]=_
    unfold sD
    simp only [List.getElem?_cons_zero,List.getElem?_cons_succ,mD] at hc ⊢
    have hfl:([0]:List Nat).all (B5 [some (false,D.int marks),some (false,D.dk (h.1.map Sum.inl) (h.2.map Flt.d))])=true:=rfl
    simp only [hfl,if_true,hc,xX]
  . simp only [Z1w,uI,Option.map_some]
    unfold nT
    rw [List.all_map]
    rfl
theorem oF {n g:Nat}{b:Nat->Bool}(hg:g < n):(tab n b / 2 ^ g % 2=1) ↔ b g=true:=by
  have h:=cK n b g
  rw [Nat.testBit_eq_decide_div_mod_eq] at h
  simp only [hg,decide_true,Bool.true_and] at h
  have e:tab n b / 2 ^ g % 2=((tabN n b / 2 ^ g % 2:Nat):Int):=by unfold tab;simp
  rw [e,<- h]
  constructor
  . intro z;exact decide_eq_true (by omega)
  . intro z;have:=of_decide_eq_true z;omega
theorem D8 {n t:Nat}(h:t < n):(1 * 2 ^ t:Int)=tab n (fun g=>decide (g=t)):=by
  unfold tab
  have:2 ^ t=tabN n (fun g=>decide (g=t)):=kU (Nat.pow_lt_pow_right (by decide) h) fun g hg=>by
    rw [Nat.testBit_two_pow]
    by_cases e:g=t
    . simp [e]
    . simp [e,Ne.symm e]
  rw [<- this,Int.one_mul]
  simp
theorem tW {n:Nat}:∀ (tests:List Int) (m:Int) (b:Nat->Bool),m=tab n b->(∀ t ∈ tests,0 <= t /\ t < (n:Int))->tests.foldl (fun m t=>Builtin.bitOr m (1 * 2 ^ t.toNat)) m=tab n (fun g=>b g || decide ((g:Int) ∈ tests))
  | [],m,b,h,_=>by simp [h]
  | t :: ts,m,b,h,hb=>by
    have ht:=hb t (by simp)
    rw [List.foldl_cons]
    rw [tW ts _ (fun g=>b g || decide (g=t.toNat)) (by rw [h,D8 (n:=n) (t:=t.toNat) (by omega),uO]) (fun x hx=>hb x (List.mem_cons_of_mem _ hx))]
    refine cJ fun g hg=>?_
    by_cases e:g=t.toNat
    . have h1:(g:Int)=t:=by omega
      have h2:(g:Int) ∈ t :: ts:=by rw [h1];exact List.mem_cons_self
      rw [decide_eq_true e,decide_eq_true h2]
      simp
    . have h1:¬ (g:Int)=t:=by omega
      have h2:((g:Int) ∈ t :: ts) ↔ ((g:Int) ∈ ts):=⟨fun z=>(List.mem_cons.mp z).elim (fun y=>absurd y h1) id,List.mem_cons_of_mem _⟩
      rw [decide_eq_false e,Bool.or_false,decide_eq_decide.mpr h2]
theorem rQ {n:Nat}{tests:List Int}(hb:∀ t ∈ tests,0 <= t /\ t < (n:Int)):lE tests=tab n (fun g=>decide ((g:Int) ∈ tests)):=by
  have:=tW tests 0 (fun _=>false) (by unfold tab;rw [kH];rfl) hb
  rw [show lE tests=_ from this]
  exact cJ fun g _=>by simp
theorem Z1f {n:Nat}{t:Int}{tests:List Int}(h:IsT n t) (hb:∀ t ∈ tests,0 <= t /\ t < (n:Int)):¬ Builtin.bitAnd t (lE tests)=0 ↔ ∃ g ∈ tests,t / 2 ^ g.toNat % 2=1:=by
  obtain⟨b,rfl⟩:=h
  rw [rQ hb,qI,tab_zero]
  constructor
  . intro h
    apply Classical.byContradiction
    intro hn
    apply h
    intro g hg
    by_cases hm:(g:Int) ∈ tests
    . have:¬ b g=true:=fun z=>hn ⟨g,hm,by rw [Int.toNat_natCast];exact (oF hg).mpr z⟩
      simp [this]
    . simp [hm]
  . rintro⟨g,hm,e⟩ h
    have hg:=hb g hm
    have h1:=h g.toNat (by omega)
    have h2:=(oF (n:=n) (b:=b) (g:=g.toNat) (by omega)).mp e
    rw [h2,Int.toNat_of_nonneg hg.1] at h1
    simp [hm] at h1
noncomputable def nH (masks tests:List Int):Bool:=masks.all fun m=>!(decide (0 < m) && (tests.filter fun g=>decide (m / 2 ^ g.toNat % 2=1)).isEmpty)
theorem Z9 {n:Nat}{masks ks tests:List Int}(hm:∀ m ∈ masks,IsT n m) (hk:∀ t,t ∈ ks ↔ t ≠ 0 /\ t ∈ masks) (hb:∀ t ∈ tests,0 <= t /\ t < (n:Int)):nT (lE tests) ks=nH masks tests:=by
  have key:nT (lE tests) ks=true ↔ nH masks tests=true:=by
    unfold nT nH
    rw [List.all_eq_true,List.all_eq_true]
    have one:∀ m,IsT n m->m ≠ 0->((!decide (Builtin.bitAnd m (lE tests)=0))=true ↔ (!(decide (0 < m) && (tests.filter fun g=>decide (m / 2 ^ g.toNat % 2=1)).isEmpty))=true):=by
      intro m hT h0
      have hp:0 < m:=by have:=hT.nonneg;omega
      have hh:=Z1f hT hb
      constructor
      . intro z
        have z':¬ Builtin.bitAnd m (lE tests)=0:=by simpa using z
        obtain⟨g,hg,e⟩:=hh.mp z'
        have:(tests.filter fun g=>decide (m / 2 ^ g.toNat % 2=1)).isEmpty=false:=by
          cases hf:tests.filter fun g=>decide (m / 2 ^ g.toNat % 2=1) with
          | nil =>
            have:g ∈ tests.filter fun g=>decide (m / 2 ^ g.toNat % 2=1):=List.mem_filter.mpr ⟨hg,by simp [e]⟩
            rw [hf] at this;cases this
          | cons _ _=>rfl
        simp [hp,this]
      . intro z
        have:¬ Builtin.bitAnd m (lE tests)=0:=hh.mpr (by
          cases hf:tests.filter fun g=>decide (m / 2 ^ g.toNat % 2=1) with
          | nil=>rw [hf] at z;simp [hp] at z
          | cons g r =>
            have hg:g ∈ tests.filter fun g=>decide (m / 2 ^ g.toNat % 2=1):=by rw [hf];simp
            have:=List.mem_filter.mp hg
            exact⟨g,this.1,of_decide_eq_true this.2⟩)
        simp [this]
    constructor
    . intro h m hmm
      by_cases h0:m=0
      . simp [h0]
      . exact (one m (hm m hmm) h0).mp (h m ((hk m).mpr ⟨h0,hmm⟩))
    . intro h t ht
      obtain⟨h0,hmm⟩:=(hk t).mp ht
      exact (one t (hm t hmm) h0).mpr (h t hmm)
  cases h1:nT (lE tests) ks with
  | true=>exact (key.mp h1).symm
  | false =>
    cases h2:nH masks tests with
    | false=>rfl
    | true=>rw [key.mpr h2] at h1;cases h1
theorem Z3o {C:Addr}{masks tests:List Int}(ht:∀ t ∈ tests,0 <= t) (htl:tests.length <= 1000):iV C [LI masks,LI tests]=some (.bl (nH masks tests)):=by
  refine Z22 ?_
  unfold E8
  have one:∀ (m:Int) (a:Bool),kC (fBI (fun i j=>decide (j < i)) (aB 2) (fC (.int 0))) (fEq (fB1 fN (aC (dB [2] (dP (aB 1)) (fEq (fI0 (fun i j=>.int (Builtin.bitAnd i j)) (fI2 (fun _ j=>0 <= j) (fun i j=>.int (i / 2 ^ j.toNat)) (aB 1) (aB 0)) (fC (.int 1))) (fC (.int 1))) (aW (aB 0))) aL)) (fC (.int 0))) [some (false,LI masks),some (false,LI tests),some (a,.int m)]=some (decide (0 < m) && (tests.filter fun g=>decide (m / 2 ^ g.toNat % 2=1)).isEmpty):=by
    intro m a
    have c1:dB [2] (dP (aB 1)) (fEq (fI0 (fun i j=>.int (Builtin.bitAnd i j)) (fI2 (fun _ j=>0 <= j) (fun i j=>.int (i / 2 ^ j.toNat)) (aB 1) (aB 0)) (fC (.int 1))) (fC (.int 1))) (aW (aB 0)) [some (false,LI masks),some (false,LI tests),some (a,.int m)]=some (.lst ((tests.filter fun g=>decide (m / 2 ^ g.toNat % 2=1)).map D.int)):=by
      refine lJ D.int D.int (fun g=>decide (m / 2 ^ g.toNat % 2=1)) (xs:=tests) rfl htl (fun g hg=>?_) (fun g _ _=>rfl)
      have h0:=ht g hg
      show fEq _ _ [some (false,.int g),some (a,.int m)]=_
      simp only [ev_Eq,ev_I0',ev_I2',ev_var,ev_C,List.getElem?_cons_zero,List.getElem?_cons_succ,Option.join_some,Option.map_some,h0,if_true,eqN_int,PyProof.Rows.bitAnd_m1]
    have c2:fB1 fN (aC (dB [2] (dP (aB 1)) (fEq (fI0 (fun i j=>.int (Builtin.bitAnd i j)) (fI2 (fun _ j=>0 <= j) (fun i j=>.int (i / 2 ^ j.toNat)) (aB 1) (aB 0)) (fC (.int 1))) (fC (.int 1))) (aW (aB 0))) aL) [some (false,LI masks),some (false,LI tests),some (a,.int m)]=some (.int ((tests.filter fun g=>decide (m / 2 ^ g.toNat % 2=1)).length:Int)):=kB (bG c1 rfl) (by simp only [fN,List.length_map])
    generalize tests.filter (fun g=>decide (m / 2 ^ g.toNat % 2=1))=L at *
    simp only [ev_And,ev_BI,ev_Eq,c2,ev_var,ev_C,List.getElem?_cons_zero,List.getElem?_cons_succ,Option.join_some,Option.map_some,eqN_int]
    by_cases h:0 < m
    . cases L with
      | nil=>simp [h]
      | cons x L=>simp [h];omega
    . simp [h]
  refine Z0s (ds:=masks.map D.int) rfl (fun i env=>(∀ m ∈ masks.take i,(!(decide (0 < m) && (tests.filter fun g=>decide (m / 2 ^ g.toNat % 2=1)).isEmpty))=true) /\ ∃ a,env=[some (false,LI masks),some (false,LI tests),a]) ⟨by simp,none,rfl⟩ ?_ ?_
  . rintro i d env hd ⟨hb,a,rfl⟩
    obtain⟨m,hm,rfl⟩:=cR hd
    refine⟨_,rfl,?_⟩
    have om:=one m false
    cases hv:(decide (0 < m) && (tests.filter fun g=>decide (m / 2 ^ g.toNat % 2=1)).isEmpty) with
    | true =>
      rw [hv] at om
      refine R7 om (Z0r (d:=.bl false) rfl ?_)
      show (Res.ret (.bl false))=.ret (.bl (nH masks tests))
      have:nH masks tests=false:=by
        cases hd2:nH masks tests with
        | false=>rfl
        | true =>
          unfold nH at hd2
          rw [List.all_eq_true] at hd2
          have:=hd2 m (List.mem_of_getElem? hm)
          rw [hv] at this
          cases this
      rw [this]
    | false =>
      rw [hv] at om
      refine C2 om (Z1z ⟨fun x hx=>?_,some (false,.int m),rfl⟩)
      rw [cB hm] at hx
      rcases List.mem_append.mp hx with z | z
      . exact hb x z
      . have z:x=m:=by simpa using z
        rw [z,hv];rfl
  . rintro env ⟨hb,a,rfl⟩
    rw [List.length_map,List.take_length] at hb
    refine Z0r (d:=.bl true) rfl ?_
    have:nH masks tests=true:=by unfold nH;rw [List.all_eq_true];exact hb
    rw [this]
noncomputable def gV (n:Nat) (b:Nat->Bool):List Int:=((List.range n).filter b).map fun (k:Nat)=>(k:Int)
theorem gV_mem {n:Nat}{b:Nat->Bool}{g:Int}:g ∈ gV n b ↔ ∃ k:Nat,k < n /\ b k=true /\ g=(k:Int):=by
  unfold gV
  rw [List.mem_map]
  constructor
  . rintro⟨k,hk,rfl⟩
    have:=List.mem_filter.mp hk
    exact⟨k,List.mem_range.mp this.1,this.2,rfl⟩
  . rintro⟨k,h1,h2,rfl⟩
    exact⟨k,List.mem_filter.mpr ⟨List.mem_range.mpr h1,h2⟩,rfl⟩
theorem Z2A {n:Nat}{b:Nat->Bool}:(gV n b).length <= n:=by
  unfold gV
  rw [List.length_map]
  exact Nat.le_trans (List.length_filter_le ..) (by simp)
theorem uD (n:Nat) (b:Nat->Bool):(gV n b).Pairwise (· < ·):=by
  unfold gV
  rw [List.pairwise_map]
  exact (List.pairwise_lt_range.filter b).imp fun h=>by omega
theorem Z2B (n:Nat):gV n (fun _=>true)=gP n:=by
  unfold gV gP
  congr 1
  exact List.filter_eq_self.mpr fun _ _=>rfl
theorem tP {L:Nat}{b:Nat->Bool}:∀ {n:Nat},L <= n->(∀ g,L <= g->g < n->b g=false)->(List.range n).filter b=(List.range L).filter b
  | 0,h,_=>by
    have:L=0:=by omega
    rw [this]
  | n + 1,h,hb=>by
    by_cases e:L=n + 1
    . rw [e]
    . rw [List.range_succ,List.filter_append,tP (n:=n) (by omega) fun g h1 h2=>hb g h1 (by omega)]
      simp [hb n (by omega) (by omega)]
theorem nU {C:Addr}{n:Nat}{b:Nat->Bool}(hn:n <= 256):eD C [.int (tab n b)]=some (LI (gV n b)):=by
  have hlt:(tab n b).natAbs < 2 ^ n:=by unfold tab;rw [Int.natAbs_natCast];exact gK n b
  have hL:Builtin.Int.intBits (tab n b) <= n:=PyProof.Rows.intBits_le hlt
  have hB:(tab n b).natAbs < 2 ^ Builtin.Int.intBits (tab n b):=by
    unfold Builtin.Int.intBits
    by_cases h0:tab n b=0
    . simp [h0]
    . rw [if_neg (by simpa using h0)]
      exact Nat.lt_log2_self
  generalize hLe:Builtin.Int.intBits (tab n b)=L at *
  have hz:∀ g,L <= g->g < n->b g=false:=fun g h1 h2=>by
    cases hb:b g with
    | false=>rfl
    | true =>
      have h3:=cK n b g
      rw [hb] at h3
      simp only [h2,decide_true,Bool.true_and] at h3
      have h4:=Nat.ge_two_pow_of_testBit h3
      have h5:2 ^ L <= 2 ^ g:=Nat.pow_le_pow_right (by decide) h1
      have h6:(tab n b).natAbs=tabN n b:=by unfold tab;rw [Int.natAbs_natCast]
      omega
  refine bZ (fV ?_)
  have key:=lJ (fr:=[0]) (src:=sB1 hG (aC (sE (aB 0)) aL)) (fc:=fEq (fI0 (fun i j=>.int (Builtin.bitAnd i j)) (fI2 (fun _ j=>0 <= j) (fun i j=>.int (i / 2 ^ j.toNat)) (aB 1) (aB 0)) (fC (.int 1))) (fC (.int 1))) (fe:=aW (aB 0)) (env:=[some (false,.int (tab n b))]) (fun (k:Nat)=>.int (k:Int)) (fun (k:Nat)=>.int (k:Int)) b (xs:=List.range L)
    (iI (xs:=[.int (L:Int)]) (bG (by
        show sE (aB 0) [some (false,.int (tab n b))]=_
        unfold sE
        simp only [ev_var,List.getElem?_cons_zero,Option.join_some,Option.map_some,hLe]) rfl) (by
      unfold hG
      simp only
      rw [if_pos (by omega),Int.toNat_natCast]
      simp)) (by rw [List.length_range];omega) (fun g hg=>by
      have hgl:g < n:=by have:=List.mem_range.mp hg;omega
      have h0:(0:Int) <= (g:Int):=by omega
      have ha:=oF (n:=n) (b:=b) hgl
      show fEq _ _ [some (false,.int (g:Int)),some (false,.int (tab n b))]=_
      simp only [ev_Eq,ev_I0',ev_I2',ev_var,ev_C,List.getElem?_cons_zero,List.getElem?_cons_succ,Option.join_some,Option.map_some,h0,if_true,eqN_int,PyProof.Rows.bitAnd_m1,Int.toNat_natCast]
      congr 1
      cases hb:b g with
      | true=>exact decide_eq_true (ha.mpr hb)
      | false=>exact decide_eq_false fun z=>by rw [ha.mp z] at hb;cases hb) (fun g _ _=>rfl)
  refine key.trans ?_
  unfold gV LI
  rw [tP hL hz,List.map_map]
  rfl
noncomputable def gH (b:Nat->Bool) (g:Nat):Nat->Bool:=fun x=>b x && !decide (x=g)
noncomputable def lV (E:(Nat->Bool)->Bool) (b:Nat->Bool) (g:Nat):Nat->Bool:=if E (gH b g)=true then gH b g else b
noncomputable def cA (E:(Nat->Bool)->Bool):Nat->Nat->Bool
  | 0=>fun _=>true
  | i + 1=>lV E (cA E i) i
section
variable {E:(Nat->Bool)->Bool}
theorem T2 {b:Nat->Bool}{g x:Nat}(h:lV E b g x=true):b x=true:=by
  unfold lV at h
  split at h
  . unfold gH at h
    simp at h;exact h.1
  . exact h
theorem wM {b:Nat->Bool}{g x:Nat}(h:x ≠ g):lV E b g x=b x:=by
  unfold lV
  split
  . simp [gH,h]
  . rfl
theorem xL:∀ (i:Nat) {x:Nat},i <= x->cA E i x=true
  | 0,x,h=>rfl
  | i + 1,x,h=>by
    show lV E (cA E i) i x=true
    rw [wM (by omega)]
    exact xL i (by omega)
theorem rS {i:Nat}:∀ (k:Nat) {x:Nat},cA E (i + k) x=true->cA E i x=true
  | 0,x,h=>h
  | k + 1,x,h=>rS k (T2 (E:=E) (g:=i + k) h)
theorem pR {i x:Nat}(h:x < i):∀ k,cA E (i + k) x=cA E i x
  | 0=>rfl
  | k + 1=>by
    show lV E (cA E (i + k)) (i + k) x=_
    rw [wM (by omega),pR h k]
theorem tY (h0:E (fun _=>true)=true):∀ i,E (cA E i)=true
  | 0=>h0
  | i + 1=>by
    show E (lV E (cA E i) i)=true
    unfold lV
    split
    . assumption
    . exact tY h0 i
theorem O7 {n g:Nat}(mono:∀ b c:Nat->Bool,(∀ x,b x=true->c x=true)->E b=true->E c=true) (hg:g < n) (h:cA E n g=true):E (gH (cA E n) g)=false:=by
  obtain⟨k,rfl⟩:∃ k,n=(g + 1) + k:=⟨n - (g + 1),by omega⟩
  have h1:cA E (g + 1) g=true:=by rw [<- pR (E:=E) (show g < g + 1 by omega) k];exact h
  cases hE:E (gH (cA E (g + 1 + k)) g) with
  | false=>rfl
  | true =>
    have h2:E (gH (cA E g) g)=true:=mono _ _ (fun x hx=>by
      unfold gH at hx ⊢
      simp only [Bool.and_eq_true] at hx ⊢
      refine⟨?_,hx.2⟩
      rw [show g + 1 + k=g + (1 + k) by omega] at hx
      exact rS (1 + k) hx.1) hE
    have h3:cA E (g + 1) g=false:=by
      show lV E (cA E g) g g=false
      unfold lV
      rw [if_pos h2]
      simp [gH]
    rw [h3] at h1;cases h1
end
noncomputable def bH (n:Nat) (ks:List Int) (b:Nat->Bool):Bool:=nT (tab n b) ks
theorem sG {n:Nat}{ks:List Int}{b:Nat->Bool}(hk:∀ t ∈ ks,IsT n t):bH n ks b=true ↔ ∀ t ∈ ks,∃ g,g < n /\ b g=true /\ t / 2 ^ g % 2=1:=by
  unfold bH nT
  rw [List.all_eq_true]
  have one:∀ t ∈ ks,((!decide (Builtin.bitAnd t (tab n b)=0))=true ↔ ∃ g,g < n /\ b g=true /\ t / 2 ^ g % 2=1):=fun t ht=>by
    obtain⟨c,rfl⟩:=hk t ht
    rw [qI,Bool.not_eq_true',decide_eq_false_iff_not,tab_zero]
    constructor
    . intro h
      apply Classical.byContradiction
      intro hn
      refine h fun g hg=>?_
      cases hc:c g with
      | false=>rfl
      | true =>
        cases hb:b g with
        | false=>rfl
        | true=>exact absurd ⟨g,hg,hb,(oF hg).mpr hc⟩ hn
    . rintro⟨g,hg,hb,hc⟩ h
      have:=h g hg
      rw [(oF hg).mp hc,hb] at this
      cases this
  exact⟨fun h t ht=>(one t ht).mp (h t ht),fun h t ht=>(one t ht).mpr (h t ht)⟩
theorem xZ {n:Nat}{ks:List Int}(hk:∀ t ∈ ks,IsT n t) (b c:Nat->Bool) (h:∀ x,b x=true->c x=true) (hb:bH n ks b=true):bH n ks c=true:=by
  rw [sG hk] at hb ⊢
  intro t ht
  obtain⟨g,h1,h2,h3⟩:=hb t ht
  exact⟨g,h1,h g h2,h3⟩
theorem P1 {n:Nat}{t:Int}(h:IsT n t) (h0:t ≠ 0):∃ g,g < n /\ t / 2 ^ g % 2=1:=by
  obtain⟨b,rfl⟩:=h
  apply Classical.byContradiction
  intro hn
  refine h0 (tab_zero.mpr fun g hg=>?_)
  cases hb:b g with
  | false=>rfl
  | true=>exact absurd ⟨g,hg,(oF hg).mpr hb⟩ hn
theorem Z0t {C:Addr}{n:Nat}{h:List Int × List Flt}(hl:h.1.length <= 1000) (hn:n <= 256) (a:Addr) (dvs:List V) :
    oS C a dvs [.int (tab n fun _=>true),LI (gP n),.fn a dvs [mD h]]=some (.int (tab n (cA (bH n h.1) n))):=by
  have ha:=fun marks=>xN (C:=C) (marks:=marks) (h:=h) hl
  refine bZ ?_
  unfold Z01
  refine kK (d:=.int (tab n fun _=>true)) rfl ?_
  refine lM (ds:=(gP n).map D.int) rfl (fun i env=>i <= n /\ ∃ x y,env=[some (false,.int (tab n fun _=>true)),some (false,LI (gP n)),some (false,.fn a dvs [mD h]),some (true,.int (tab n (cA (bH n h.1) i))),x,y]) ⟨Nat.zero_le _,none,none,rfl⟩ ?_ ?_
  . rintro i d env hd ⟨hi,x,y,rfl⟩
    obtain⟨g,hg,rfl⟩:=cR hd
    have hgi:g=(i:Int) /\ i < n:=by
      unfold gP at hg
      rw [List.getElem?_map] at hg
      cases hr:(List.range n)[i]? with
      | none=>rw [hr] at hg;cases hg
      | some k =>
        rw [hr] at hg
        obtain⟨h1,h2⟩:=List.getElem?_eq_some_iff.mp hr
        rw [List.getElem_range] at h2
        subst h2
        cases hg
        exact⟨rfl,by simpa using h1⟩
    obtain⟨rfl,hin⟩:=hgi
    have sh:dS 1 (i:Int):=mJ (by omega) (by omega)
    have kb:=xL (E:=bH n h.1) i (Nat.le_refl i)
    have few:Builtin.bitXor (tab n (cA (bH n h.1) i)) (1 * 2 ^ (i:Int).toNat)=tab n (gH (cA (bH n h.1) i) i):=by
      rw [Int.toNat_natCast,D8 hin,qH]
      refine cJ fun z hz=>?_
      unfold gH
      by_cases e:z=i
      . subst e;simp [kb]
      . simp [e]
    have hst:cA (bH n h.1) (i + 1)=if bH n h.1 (gH (cA (bH n h.1) i) i)=true then gH (cA (bH n h.1) i) i else cA (bH n h.1) i:=rfl
    have ha':=ha (tab n (gH (cA (bH n h.1) i) i))
    rw [show nT (tab n (gH (cA (bH n h.1) i) i)) h.1=bH n h.1 (gH (cA (bH n h.1) i) i) from rfl] at ha'
    rw [hst]
    generalize gH (cA (bH n h.1) i) i=lb at *
    generalize cA (bH n h.1) i=kb0 at *
    clear hst hd hg kb
    have e5:fI0 (fun i j=>.int (Builtin.bitXor i j)) (aB 3) (fI2 dS (fun i j=>.int (i * 2 ^ j.toNat)) (fC (.int 1)) (aB 4)) [some (false,.int (tab n fun _=>true)),some (false,LI (gP n)),some (false,.fn a dvs [mD h]),some (true,.int (tab n kb0)),some (false,.int (i:Int)),y]=some (.int (tab n lb)):=by
      have z:fI2 dS (fun i j=>.int (i * 2 ^ j.toNat)) (fC (.int 1)) (aB 4) [some (false,.int (tab n fun _=>true)),some (false,LI (gP n)),some (false,.fn a dvs [mD h]),some (true,.int (tab n kb0)),some (false,.int (i:Int)),y]=some (.int (1 * 2 ^ (i:Int).toNat)):=Z1K (C:=dS) rfl rfl sh
      rw [<- few]
      simp only [ev_I0',z,ev_var,List.getElem?_cons_zero,List.getElem?_cons_succ,Option.join_some,Option.map_some]
    have eF:fB (fFn 2 a dvs (aB 5) (aP (fL C) [] (aC (aB 0) (aC (aB 1) aL)))) [some (false,.int (tab n fun _=>true)),some (false,LI (gP n)),some (false,.fn a dvs [mD h]),some (true,.int (tab n kb0)),some (false,.int (i:Int)),some (true,.int (tab n lb))]=some (bH n h.1 lb):=by
      have z:fFn 2 a dvs (aB 5) (aP (fL C) [] (aC (aB 0) (aC (aB 1) aL))) [some (false,.int (tab n fun _=>true)),some (false,LI (gP n)),some (false,.fn a dvs [mD h]),some (true,.int (tab n kb0)),some (false,.int (i:Int)),some (true,.int (tab n lb))]=some (.bl (bH n h.1 lb)):=by
        unfold fFn
        simp only [ev_var,List.getElem?_cons_zero,List.getElem?_cons_succ,Option.join_some,Option.map_some,and_self,if_true]
        exact aZ (xs:=[.int (tab n lb),mD h]) rfl ha'
      rw [ev_B,z]
    refine⟨_,_,rfl,?_,by omega,some (false,.int (i:Int)),some (true,.int (tab n lb)),rfl⟩
    refine kK (d:=.int (tab n lb)) e5 ?_
    show rIf _ _ _ [some (false,.int (tab n fun _=>true)),some (false,LI (gP n)),some (false,.fn a dvs [mD h]),some (true,.int (tab n kb0)),some (false,.int (i:Int)),some (true,.int (tab n lb))]=_
    by_cases hE:bH n h.1 lb=true
    . rw [hE] at eF
      rw [if_pos hE]
      exact L9 eF (D0 (d:=.int (tab n lb)) rfl)
    . rw [Bool.not_eq_true] at hE
      rw [hE] at eF
      rw [if_neg (by rw [hE];decide)]
      exact U5 eF rfl
  . rintro env ⟨_,x,y,rfl⟩
    have:((gP n).map D.int).length=n:=by simp [gP]
    rw [this]
    rfl
noncomputable def pL (ins:Nat) (rows:List Row) (outs:List Int):Nat->Bool:=cA (bH (2 ^ ins) (vJ ins rows outs).1) (2 ^ ins)
theorem yU {C:Addr}{ins:Nat}{rows:List Row}{outs:List Int}(hi:ins <= 8) (hs:ins + rows.length < 64) (hl:outs.length <= 100) (hr:RowsOk ins rows) (ho:∀ a ∈ outs,0 <= a /\ a < ((ins + rows.length:Nat):Int)) :
    kP C [bQ C ins rows outs]=some (LI (gV (2 ^ ins) (pL ins rows outs))):=by
  have th:=K3 (C:=C) hi hs hl hr ho
  have fl:=mH hr ho
  have pb:2 ^ ins <= 256:=Nat.le_trans (Nat.pow_le_pow_right (by decide) hi) (by decide)
  obtain⟨k1,k2,_⟩:=qN (tell:=fF ins rows outs) (FS:=dW ins rows outs) (dW ins rows outs).length (Nat.le_refl _)
  have hlen:(vJ ins rows outs).1.length <= 1000:=by unfold vJ;omega
  have te:=fun a dvs=>Z0t (C:=C) (n:=2 ^ ins) hlen pb a dvs
  have lr:=O3 (mm:=oS C) te
  have ft:bW C [.int ins]=some (.int (tab (2 ^ ins) fun _=>true)):=by rw [full_table hi,lU]
  have g1:=nU (C:=C) (n:=2 ^ ins) (b:=fun _=>true) pb
  rw [Z2B] at g1
  have g2:=nU (C:=C) (n:=2 ^ ins) (b:=pL ins rows outs) pb
  unfold pL at g2 ⊢
  generalize vJ ins rows outs=hv at *
  clear te k1 k2 fl
  generalize 2 ^ ins=n at *
  generalize (tab n fun _=>true)=ev at *
  generalize tab n (cA (bH n hv.1) n)=kv at *
  generalize LI (gP n)=RG at *
  generalize LI (gV n (cA (bH n hv.1) n))=GV at *
  generalize mD hv=HD at *
  refine bZ ?_
  unfold uB
  refine kK (d:=HD) (aZ (xs:=[bQ C ins rows outs]) rfl th) ?_
  refine kK (d:=.int ev) (aZ (xs:=[.int ins]) (bG (mS rfl) rfl) ft) ?_
  refine fV (aZ (xs:=[.int kv]) (bG ?_ rfl) g2)
  have z2:aP (eD C) [] (aC (aB 2) aL) [some (false,bQ C ins rows outs),some (true,HD),some (true,.int ev)]=some (RG):=aZ (xs:=[.int ev]) rfl g1
  exact Z1l rfl z2 rfl lr
theorem T4 {L:List Int}{k:Nat}(hk:k < L.length) (hs:L.Pairwise (· < ·)) (x:Int):x ∈ L.take k ++ L.drop (k + 1) ↔ x ∈ L /\ x ≠ L[k]:=by
  have e:L.take k ++ L[k] :: L.drop (k + 1)=L:=by rw [<- List.drop_eq_getElem_cons hk,List.take_append_drop]
  have hs':(L.take k ++ L[k] :: L.drop (k + 1)).Pairwise (· < ·):=by rw [e];exact hs
  obtain⟨_,h2,h3⟩:=List.pairwise_append.mp hs'
  have h4:=(List.pairwise_cons.mp h2).1
  have hm:x ∈ L ↔ x ∈ L.take k \/ x=L[k] \/ x ∈ L.drop (k + 1):=by
    have:x ∈ L ↔ x ∈ L.take k ++ L[k] :: L.drop (k + 1):=by rw [e]
    rw [this,List.mem_append,List.mem_cons]
  rw [hm,List.mem_append]
  constructor
  . rintro (h | h)
    . exact⟨.inl h,fun z=>by have:=h3 x h L[k] List.mem_cons_self;omega⟩
    . exact⟨.inr (.inr h),fun z=>by have:=h4 x h;omega⟩
  . rintro⟨h | h | h,hne⟩
    . exact .inl h
    . exact absurd h hne
    . exact .inr h
theorem sH {n:Nat}{masks ks tests:List Int}{b:Nat->Bool}(hm:∀ m ∈ masks,IsT n m) (hk:∀ t,t ∈ ks ↔ t ≠ 0 /\ t ∈ masks) (ht:∀ x,x ∈ tests ↔ ∃ k:Nat,k < n /\ b k=true /\ x=(k:Int)):nH masks tests=bH n ks b:=by
  have hb:∀ t ∈ tests,0 <= t /\ t < (n:Int):=fun t h=>by obtain⟨k,h1,_,rfl⟩:=(ht t).mp h;omega
  rw [<- Z9 hm hk hb,rQ hb]
  unfold bH
  congr 1
  refine cJ fun g hg=>?_
  cases hbg:b g with
  | true=>exact decide_eq_true ((ht _).mpr ⟨g,hg,hbg,rfl⟩)
  | false =>
    refine decide_eq_false fun z=>?_
    obtain⟨k,_,h2,h3⟩:=(ht _).mp z
    have:k=g:=by omega
    rw [this,hbg] at h2;cases h2
theorem yV {n:Nat}{masks ks:List Int}(hm:∀ m ∈ masks,IsT n m) (hk:∀ t,t ∈ ks ↔ t ≠ 0 /\ t ∈ masks) :
    nH masks (gV n (cA (bH n ks) n))=true /\ ∀ k,k < (gV n (cA (bH n ks) n)).length->nH masks ((gV n (cA (bH n ks) n)).take k ++ (gV n (cA (bH n ks) n)).drop (k + 1))=false:=by
  have hkT:∀ t ∈ ks,IsT n t:=fun t ht=>hm t ((hk t).mp ht).2
  refine⟨?_,fun k hlt=>?_⟩
  . rw [sH (b:=cA (bH n ks) n) hm hk fun x=>gV_mem]
    refine tY ?_ n
    rw [sG hkT]
    intro t ht
    obtain⟨g,h1,h2⟩:=P1 (hkT t ht) ((hk t).mp ht).1
    exact⟨g,h1,rfl,h2⟩
  . obtain⟨g,g1,g2,g3⟩:=gV_mem.mp (List.getElem_mem hlt)
    rw [sH (b:=gH (cA (bH n ks) n) g) hm hk fun x=>?_]
    . exact O7 (xZ hkT) g1 g2
    . rw [T4 hlt (uD _ _),gV_mem,g3]
      constructor
      . rintro⟨⟨j,h1,h2,rfl⟩,h3⟩
        exact⟨j,h1,by unfold gH;rw [h2];simp;omega,rfl⟩
      . rintro⟨j,h1,h2,rfl⟩
        unfold gH at h2
        simp only [Bool.and_eq_true,Bool.not_eq_true',decide_eq_false_iff_not] at h2
        exact⟨⟨j,h1,h2.1,rfl⟩,by omega⟩
theorem xG {F':List D->Option D}{fs:En->Option (List D)}{env:En}{xs:List D}(h:fs env=some xs) (q:F' xs=some (.bl true)):iN (fB (aP F' [] fs)) env=some false:=by
  have:aP F' [] fs env=some (.bl true):=aZ (xs:=xs) h (by simpa using q)
  simp only [ev_Not,ev_B,this,Option.map_some,Bool.not_true]
theorem Z1H {a b:En->Option Bool}{env:En}(h:a env=some false) (k:b env=some false):fOr a b env=some false:=by rw [ev_Or,h];exact k
theorem Y4 {C:Addr}(ns:List Int) (hlen:ns.length <= 63) (hbits:∀ i ∈ ns,Builtin.Int.intBits i <= 1048576):Y1 C [.lst (ns.map D.int)]=some (.bl true):=by
  refine Z22 ?_
  unfold Z1I
  have e1:=gI ns
  have e2:cutD (ns.map D.int) none (some 14)=(ns.take 14).map D.int:=by rw [List.map_take];exact mI (ns.map D.int) 14
  have e3:cutD (ns.map D.int) none (some 63)=ns.map D.int:=(mI (ns.map D.int) 63).trans (List.take_of_length_le (by simpa using hlen))
  refine oC (d:=LI (ns.take 14)) (by walk_at "ev";rfl) ?_
  have hcb:∀ c ∈ ns.take 14,Builtin.Int.intBits c <= 1048576:=fun c hc=>hbits c (List.mem_of_mem_take hc)
  have hcl:(ns.take 14).length <= 14:=by rw [List.length_take];omega
  generalize ns.take 14=cells at *
  refine oC (d:=.int 3) (by walk_at "ev") ?_
  have el:fN [.lst (cells.map D.int)]=some (.int (cells.length:Int)):=by simp only [fN,List.length_map]
  refine Z3H (fun e=>∃ fst:Int,e=[some (false,.lst (ns.map D.int)),some (true,LI cells),some (true,.int fst),none,none,none,none,none,none,none,none]) ?_ ?_
  . by_cases h:0 < (cells.length:Int)
    . refine R7 (by clear hbits hcb;simp only [LI];walk_at "ev") ?_
      have sl:fSl (aB 0) lR (fP (fC (.int 63))) [some (false,.lst (ns.map D.int)),some (true,LI cells),some (true,.int 3),none,none,none,none,none,none,none,none]=some (.lst (ns.map D.int)):=by
        simp only [ev_Sl,ev_var,List.getElem?_cons_zero,Option.join_some,Option.map_some,ev_NoP,ev_P,ev_C,e1,if_true,e3]
      exact Z1y (d:=.int ns.sum) (kB (xs:=[.lst (ns.map D.int)]) (bG sl rfl) (yZ ns)) ⟨_,rfl,ns.sum,rfl⟩
    . refine C2 (by clear hbits hcb;simp only [LI];walk_at "ev") ?_
      exact⟨_,rfl,3,rfl⟩
  rintro _ ⟨fst,rfl⟩
  have q6:(0:Int) < 7:=by decide
  have q8:(0:Int) < 8:=by decide
  have d6:fE fst 7:=⟨by decide,by decide⟩
  have i0:=Int.emod_nonneg fst (show (7:Int) ≠ 0 by decide)
  have i1:=Int.emod_lt_of_pos fst q6
  have j0:=Int.emod_nonneg (fst / 7) (show (8:Int) ≠ 0 by decide)
  have j1:=Int.emod_lt_of_pos (fst / 7) q8
  obtain⟨ins,hins⟩:∃ k:Nat,fst % 7=(k:Int):=⟨(fst % 7).toNat,by omega⟩
  obtain⟨many,hmany⟩:∃ k:Nat,fst / 7 % 8=(k:Int):=⟨(fst / 7 % 8).toNat,by omega⟩
  have hi8:ins <= 6:=by omega
  refine oC (d:=.int (ins:Int)) (by clear hcb hbits;walk_at "ev") ?_
  obtain⟨_,ec,rows,outs,hr,hrl,hpos,hol,ho,rfl⟩:=zZ (C:=C) (cells:=cells) (ins:=ins) (most:=14) (many:=many) (B:=15) hcb (by omega) (by decide) (by decide) (by decide) (by omega)
  have ec':fK C [LI cells,.int ins,.int 14,.int many]=some (.tup [.lst (rows.map Row.d),LI outs]):=ec
  refine Z3G (d:=.tup [.lst (rows.map Row.d),LI outs]) (by clear hcb ec hbits;walk_at "ev") rfl ?_
  have f1:gZ [.lst (rows.map Row.d)]=some (.lst (rows.map Row.d)):=by simp only [gZ,L6,if_true]
  have f2:gZ [LI outs]=some (LI outs):=by simp only [gZ,LI,gI,if_true]
  have mc:=Z17 (C:=C) (ins:=ins) (rows:=rows) (outs:=outs) (by omega)
  have hs1:ins + rows.length < 64:=by omega
  have hol2:outs.length <= 100:=by omega
  have te:=yU (C:=C) (ins:=ins) (rows:=rows) (outs:=outs) (by omega) hs1 hol2 hr ho
  let S0:Slot:=some (false,.lst (ns.map D.int))
  let S1:Slot:=some (true,LI cells)
  let S2:Slot:=some (true,.int fst)
  let S3:Slot:=some (true,.int (ins:Int))
  let S4:Slot:=some (false,.lst (rows.map Row.d))
  let S5:Slot:=some (false,LI outs)
  have em:fB1 (gG C) (aC (aB 3) (aC (fB1 gZ (aC (aB 4) aL)) (aC (fB1 gZ (aC (aB 5) aL)) aL))) [S0,S1,S2,S3,S4,S5,none,none,none,none,none]=some (bQ C ins rows outs) :=
    kB (xs:=[.int ins,.lst (rows.map Row.d),LI outs]) (bG rfl (bG (kB (xs:=[.lst (rows.map Row.d)]) rfl f1) (bG (kB (xs:=[LI outs]) rfl f2) rfl))) mc
  refine oC (aZ (xs:=[bQ C ins rows outs]) (bG em rfl) te) ?_
  clear ec ec' mc f1 f2 j0 j1 hmany hcb el em
  have ln:=Y7 (C:=C) hs1 hol2 hr ho
  have nb:=pN hr ho
  have nl:=oP hr ho
  have lf:=Y9 (C:=C) (N:=lN ins rows outs) hr nb (by omega) ln
  have fl:=mH hr ho
  have fo:=fun f hf=>(nG (outs:=outs) hr f hf).1
  have LT:∀ f,FltOk ins rows f->eB C [.int ins,.lst (rows.map Row.d),LI outs,f.d]=some (.int (fF ins rows outs f)):=fun f hf=>O4 (by omega) (by omega) hr hf ho
  have lf':fJ C [.int ins,.lst (rows.map Row.d),LI outs]=some (.lst ((dW ins rows outs).map Flt.d)):=lf
  have pb:2 ^ ins <= 64:=Nat.le_trans (Nat.pow_le_pow_right (by decide) hi8) (by decide)
  have ep:(1:Int) * 2 ^ (ins:Int).toNat=((2 ^ ins:Nat):Int):=by rw [Int.one_mul,Int.toNat_natCast];simp
  have p1:dS 1 (ins:Int):=mJ (by omega) (by omega)
  obtain⟨_,_,k3⟩:=qN (tell:=fF ins rows outs) (FS:=dW ins rows outs) (dW ins rows outs).length (Nat.le_refl _)
  rw [List.take_length] at k3
  obtain⟨tf1,tf2⟩:=yV (n:=2 ^ ins) (masks:=(dW ins rows outs).map (fF ins rows outs)) (ks:=(vJ ins rows outs).1) (fun m hm=>by
      obtain⟨f,hf,rfl⟩:=List.mem_map.mp hm
      exact K4 (lT hr .no) (lT hr (nG hr f hf).1) outs) (fun t=>by
      rw [show t ∈ (vJ ins rows outs).1 ↔ _ from k3 t,List.mem_map])
  have gs:=uD (2 ^ ins) (pL ins rows outs)
  have gl:=Z2A (n:=2 ^ ins) (b:=pL ins rows outs)
  have gb:∀ g ∈ gV (2 ^ ins) (pL ins rows outs),0 <= g /\ g < ((2 ^ ins:Nat):Int):=fun g hg=>by
    obtain⟨k,h1,_,rfl⟩:=gV_mem.mp hg;omega
  rw [show cA (bH (2 ^ ins) (vJ ins rows outs).1) (2 ^ ins)=pL ins rows outs from rfl] at tf1 tf2
  generalize gV (2 ^ ins) (pL ins rows outs)=GS at *
  clear lf ln nb nl k3 te
  generalize dW ins rows outs=FS at *
  let S6:Slot:=some (true,LI GS)
  show Wp (aO _ _ [S0,S1,S2,S3,S4,S5,S6,none,none,none,none]) _
  refine wNo rfl ?_
  refine oC (d:=.int (-1)) rfl ?_
  refine C3 (ds:=GS.map D.int) rfl (fun i env=>∃ o lst a,(∀ g ∈ GS.drop i,lst < g) /\ env=[S0,S1,S2,S3,S4,S5,some (false,LI GS),some (o,.int lst),a,none,none]) ⟨true,-1,none,fun g hg=>by have:=(gb g (List.mem_of_mem_drop hg)).1;omega,rfl⟩ ?_ ?_
  . rintro i d env R hd ⟨o,lst,a,hlt,rfl⟩ hR
    obtain⟨g,hg,rfl⟩:=cR hd
    have hgm:=List.mem_of_getElem? hg
    have hb:=gb g hgm
    obtain⟨hil,hge⟩:=List.getElem?_eq_some_iff.mp hg
    have hdr:GS.drop i=g :: GS.drop (i + 1):=by rw [List.drop_eq_getElem_cons hil,hge]
    have h1:=hlt g (by rw [hdr];exact List.mem_cons_self)
    refine⟨_,rfl,?_⟩
    refine wNo ?_ ?_
    . refine Z1H (xG (xs:=[.int g]) rfl Z19) (Z1H ?_ ?_)
      . show some (decide (g <= lst))=_
        rw [decide_eq_false (by omega)]
      . have y3:fI2 dS (fun i j=>.int (i * 2 ^ j.toNat)) (fC (.int 1)) (aB 3) [S0,S1,S2,S3,S4,S5,some (false,LI GS),some (o,.int lst),some (false,.int g),none,none]=some (.int ((2 ^ ins:Nat):Int)):=by
          rw [Z1K (C:=dS) (i:=1) (j:=(ins:Int)) rfl rfl p1,ep]
        show fBI _ _ _ [S0,S1,S2,S3,S4,S5,some (false,LI GS),some (o,.int lst),some (false,.int g),none,none]=_
        rw [ev_BI,y3]
        show some (decide (((2 ^ ins:Nat):Int) <= g))=_
        rw [decide_eq_false (by omega)]
    . refine hR _ ⟨false,g,some (false,.int g),fun x hx=>?_,rfl⟩
      have hp:(GS.drop i).Pairwise (· < ·):=gs.sublist (List.drop_sublist _ _)
      rw [hdr] at hp
      exact (List.pairwise_cons.mp hp).1 x hx
  rintro env ⟨o,lst,a,_,rfl⟩
  have e7:dB [3,4,5] (dP (aP (fJ C) [] (aC (aB 3) (aC (aB 4) (aC (aB 5) aL))))) fTT (aP (eB C) [] (aC (aB 1) (aC (aB 2) (aC (aB 3) (aC (aB 0) aL))))) [S0,S1,S2,S3,S4,S5,some (false,LI GS),some (o,.int lst),a,none,none]=some (LI (FS.map (fF ins rows outs))):=by
    rw [gJ Flt.d (fun f=>.int (fF ins rows outs f)) (xs:=FS) (eS (aZ (xs:=[.int ins,.lst (rows.map Row.d),LI outs]) rfl lf')) (by omega) (fun f hf=>aZ (xs:=[.int ins,.lst (rows.map Row.d),LI outs,f.d]) rfl (LT f (fo f hf)))]
    simp [LI,Function.comp_def]
  refine oC e7 ?_
  clear LT lf' e7
  have LA:∀ tests:List Int,(∀ t ∈ tests,t ∈ GS)->tests.length <= 1000->iV C [LI (FS.map (fF ins rows outs)),LI tests]=some (.bl (nH (FS.map (fF ins rows outs)) tests)):=fun tests h1 h2=>Z3o (fun t ht=>(gb t (h1 t ht)).1) h2
  have la1:=LA GS (fun _ h=>h) (by omega)
  rw [tf1] at la1
  generalize FS.map (fF ins rows outs)=MS at *
  let S9:Slot:=some (true,LI MS)
  refine wNo (xG (xs:=[LI MS,LI GS]) rfl la1) ?_
  refine C3 (ds:=(List.range GS.length).map fun (k:Nat)=>.int (k:Int)) (iI (xs:=[.int (GS.length:Int)]) (bG (kB (xs:=[LI GS]) rfl (by simp only [fN,LI,List.length_map])) rfl) (U0 (by omega)))
    (fun i env=>∃ x,env=[S0,S1,S2,S3,S4,S5,some (false,LI GS),some (o,.int lst),a,S9,x]) ⟨none,rfl⟩ ?_ ?_
  . rintro i d env R hd ⟨x,rfl⟩ hR
    obtain⟨hi,rfl⟩:=kM hd
    refine⟨_,rfl,?_⟩
    have hft:=gI GS
    have ecat:B7 (fSl (aB 6) lR (fP (aB 10))) (fSl (aB 6) (fP (fI0 (fun i j=>.int (i + j)) (aB 10) (fC (.int 1)))) lR) [S0,S1,S2,S3,S4,S5,some (false,LI GS),some (o,.int lst),a,S9,some (false,.int (i:Int))]=some (LI (GS.take i ++ GS.drop (i + 1))):=by
      have v8:aB 6 [S0,S1,S2,S3,S4,S5,some (false,LI GS),some (o,.int lst),a,S9,some (false,.int (i:Int))]=some (.lst (GS.map D.int)):=rfl
      have v9:aB 10 [S0,S1,S2,S3,S4,S5,some (false,LI GS),some (o,.int lst),a,S9,some (false,.int (i:Int))]=some (.int (i:Int)):=rfl
      have k1:fSl (aB 6) lR (fP (aB 10)) [S0,S1,S2,S3,S4,S5,some (false,LI GS),some (o,.int lst),a,S9,some (false,.int (i:Int))]=some (.lst ((GS.take i).map D.int)):=by
        simp only [ev_Sl,v8,ev_NoP,ev_P,v9,hft,if_true,mI,List.map_take]
      have v10:fI0 (fun i j=>.int (i + j)) (aB 10) (fC (.int 1)) [S0,S1,S2,S3,S4,S5,some (false,LI GS),some (o,.int lst),a,S9,some (false,.int (i:Int))]=some (.int ((i + 1:Nat):Int)):=rfl
      have k2:fSl (aB 6) (fP (fI0 (fun i j=>.int (i + j)) (aB 10) (fC (.int 1)))) lR [S0,S1,S2,S3,S4,S5,some (false,LI GS),some (o,.int lst),a,S9,some (false,.int (i:Int))]=some (.lst ((GS.drop (i + 1)).map D.int)):=by
        simp only [ev_Sl,v8,ev_NoP,ev_P,v10,hft,if_true,Z0b,List.map_drop]
      unfold B7
      rw [k1,k2]
      simp only
      rw [if_pos (by rw [List.length_map,List.length_map,List.length_take,List.length_drop];omega),<- List.map_append]
      rfl
    have la:=LA (GS.take i ++ GS.drop (i + 1)) (fun t ht=>(List.mem_append.mp ht).elim List.mem_of_mem_take List.mem_of_mem_drop) (by rw [List.length_append,List.length_take,List.length_drop];omega)
    rw [tf2 i hi] at la
    refine C2 ?_ (Z1z (hR _ ⟨some (false,.int (i:Int)),rfl⟩))
    have e0:aP (iV C) [] (aC (aB 9) (aC (B7 (fSl (aB 6) lR (fP (aB 10))) (fSl (aB 6) (fP (fI0 (fun i j=>.int (i + j)) (aB 10) (fC (.int 1)))) lR)) aL)) [S0,S1,S2,S3,S4,S5,some (false,LI GS),some (o,.int lst),a,S9,some (false,.int (i:Int))]=some (.bl false):=aZ (xs:=[LI MS,LI (GS.take i ++ GS.drop (i + 1))]) (bG rfl (bG ecat rfl)) la
    show fB _ [S0,S1,S2,S3,S4,S5,some (false,LI GS),some (o,.int lst),a,S9,some (false,.int (i:Int))]=_
    rw [ev_B,e0]
  . rintro env ⟨x,rfl⟩
    exact Z0r (d:=.bl true) rfl rfl
theorem us0 {Z:List Value->Prop}(h:Z []) (us:List Value) (hl:us.length=0):Z us:=by rw [List.eq_nil_of_length_eq_zero hl];exact h
theorem usS {Z:List Value->Prop}{n:Nat}(h:∀ (a:Value) (t:List Value),t.length=n->Z (a :: t)) (us:List Value) (hl:us.length=n + 1):Z us:=by
  cases us with
  | nil=>exact absurd hl (by simp)
  | cons a t=>exact h a t (Nat.succ.inj hl)
theorem us1 {Z:List Value->Prop}(h:∀ a0:Value,Z [a0]) (us:List Value) (hl:us.length=1):Z us:=usS (n:=0) (fun a=>us0 (Z:=fun t=>Z (a :: t)) (h a)) us hl
theorem us2 {Z:List Value->Prop}(h:∀ a0 a1:Value,Z [a0,a1]) (us:List Value) (hl:us.length=2):Z us:=usS (n:=1) (fun a=>us1 (Z:=fun t=>Z (a :: t)) (h a)) us hl
theorem us3 {Z:List Value->Prop}(h:∀ a0 a1 a2:Value,Z [a0,a1,a2]) (us:List Value) (hl:us.length=3):Z us:=usS (n:=2) (fun a=>us2 (Z:=fun t=>Z (a :: t)) (h a)) us hl
theorem us4 {Z:List Value->Prop}(h:∀ a0 a1 a2 a3:Value,Z [a0,a1,a2,a3]) (us:List Value) (hl:us.length=4):Z us:=usS (n:=3) (fun a=>us3 (Z:=fun t=>Z (a :: t)) (h a)) us hl
theorem us5 {Z:List Value->Prop}(h:∀ a0 a1 a2 a3 a4:Value,Z [a0,a1,a2,a3,a4]) (us:List Value) (hl:us.length=5):Z us:=usS (n:=4) (fun a=>us4 (Z:=fun t=>Z (a :: t)) (h a)) us hl
theorem us6 {Z:List Value->Prop}(h:∀ a0 a1 a2 a3 a4 a5:Value,Z [a0,a1,a2,a3,a4,a5]) (us:List Value) (hl:us.length=6):Z us:=usS (n:=5) (fun a=>us5 (Z:=fun t=>Z (a :: t)) (h a)) us hl
theorem gA {K:Frag}{H:Hp}:Reps K false H [] [] []:=by simp only [Reps];exact⟨trivial,trivial⟩
theorem head_mk {l:PySem.W.OpenLaw}{w:World}{K:Frag}{h:Heap}{mg:Str->Option Value}{fa:Addr}(X:K.In h) (G:h.Ns mainGlobals mg) (hfa:mg "law" = some (.ref fa))
    {C_Circuit:Addr}
    {f0:Addr}{od0 an0:Option Addr}{sl0:Array (Option Value)}{oc0 kV0 dc0 pm0 cd0 ct0:Value}
    {f1:Addr}{od1 an1:Option Addr}{sl1:Array (Option Value)}{oc1 kV1 dc1 pm1 cd1 ct1:Value}
    {f2:Addr}{od2 an2:Option Addr}{sl2:Array (Option Value)}{oc2 kV2 dc2 pm2 cd2 ct2:Value}
    {f3:Addr}{od3 an3:Option Addr}{sl3:Array (Option Value)}{oc3 kV3 dc3 pm3 cd3 ct3:Value}
    {f4:Addr}{od4 an4:Option Addr}{sl4:Array (Option Value)}{oc4 kV4 dc4 pm4 cd4 ct4:Value}
    {f5:Addr}{od5 an5:Option Addr}{sl5:Array (Option Value)}{oc5 kV5 dc5 pm5 cd5 ct5:Value}
    {f6:Addr}{od6 an6:Option Addr}{sl6:Array (Option Value)}{oc6 kV6 dc6 pm6 cd6 ct6:Value}
    {f7:Addr}{od7 an7:Option Addr}{sl7:Array (Option Value)}{oc7 kV7 dc7 pm7 cd7 ct7:Value}
    {f8:Addr}{od8 an8:Option Addr}{sl8:Array (Option Value)}{oc8 kV8 dc8 pm8 cd8 ct8:Value}
    {T8:Addr}{ocT8:Value}{odT8:Option Addr}{slT8:Array (Option Value)}{nT8:Nat}
    {f9:Addr}{od9 an9:Option Addr}{sl9:Array (Option Value)}{oc9 kV9 dc9 pm9 cd9 ct9:Value}
    {f10:Addr}{od10 an10:Option Addr}{sl10:Array (Option Value)}{oc10 kV10 dc10 pm10 cd10 ct10:Value}
    {T10:Addr}{ocT10:Value}{odT10:Option Addr}{slT10:Array (Option Value)}{nT10:Nat}
    {f11:Addr}{od11 an11:Option Addr}{sl11:Array (Option Value)}{oc11 kV11 dc11 pm11 cd11 ct11:Value}
    {f12:Addr}{od12 an12:Option Addr}{sl12:Array (Option Value)}{oc12 kV12 dc12 pm12 cd12 ct12:Value}
    {f13:Addr}{od13 an13:Option Addr}{sl13:Array (Option Value)}{oc13 kV13 dc13 pm13 cd13 ct13:Value}
    {f14:Addr}{od14 an14:Option Addr}{sl14:Array (Option Value)}{oc14 kV14 dc14 pm14 cd14 ct14:Value}
    {f15:Addr}{od15 an15:Option Addr}{sl15:Array (Option Value)}{oc15 kV15 dc15 pm15 cd15 ct15:Value}
    {f16:Addr}{od16 an16:Option Addr}{sl16:Array (Option Value)}{oc16 kV16 dc16 pm16 cd16 ct16:Value}
    {f17:Addr}{od17 an17:Option Addr}{sl17:Array (Option Value)}{oc17 kV17 dc17 pm17 cd17 ct17:Value}
    {f18:Addr}{od18 an18:Option Addr}{sl18:Array (Option Value)}{oc18 kV18 dc18 pm18 cd18 ct18:Value}
    {f19:Addr}{od19 an19:Option Addr}{sl19:Array (Option Value)}{oc19 kV19 dc19 pm19 cd19 ct19:Value}
    {f20:Addr}{od20 an20:Option Addr}{sl20:Array (Option Value)}{oc20 kV20 dc20 pm20 cd20 ct20:Value}
    {f21:Addr}{od21 an21:Option Addr}{sl21:Array (Option Value)}{oc21 kV21 dc21 pm21 ct21:Value}
    {cA_lam P0:Addr}
    {f22:Addr}{od22 an22:Option Addr}{sl22:Array (Option Value)}{oc22 kV22 dc22 pm22 cd22 ct22:Value}
    {f23:Addr}{od23 an23:Option Addr}{sl23:Array (Option Value)}{oc23 kV23 dc23 pm23 cd23 ct23:Value}
    {f24:Addr}{od24 an24:Option Addr}{sl24:Array (Option Value)}{oc24 kV24 dc24 pm24 cd24 ct24:Value}
    {f25:Addr}{od25 an25:Option Addr}{sl25:Array (Option Value)}{oc25 kV25 dc25 pm25 cd25 ct25:Value}
    {f26:Addr}{od26 an26:Option Addr}{sl26:Array (Option Value)}{oc26 kV26 dc26 pm26 cd26 ct26:Value}
    {f27:Addr}{od27 an27:Option Addr}{sl27:Array (Option Value)}{oc27 kV27 dc27 pm27 cd27 ct27:Value}
    {f28:Addr}{od28 an28:Option Addr}{sl28:Array (Option Value)}{oc28 kV28 dc28 pm28 cd28 ct28:Value}
    {f29:Addr}{od29 an29:Option Addr}{sl29:Array (Option Value)}{oc29 kV29 dc29 pm29 cd29 ct29:Value}
    {f30:Addr}{od30 an30:Option Addr}{sl30:Array (Option Value)}{oc30 kV30 dc30 pm30 cd30 ct30:Value}
    {f31:Addr}{od31 an31:Option Addr}{sl31:Array (Option Value)}{oc31 kV31 dc31 pm31 cd31 ct31:Value}
    {f32:Addr}{od32 an32:Option Addr}{sl32:Array (Option Value)}{oc32 kV32 dc32 pm32 cd32 ct32:Value}
    {f33:Addr}{od33 an33:Option Addr}{sl33:Array (Option Value)}{oc33 kV33 dc33 pm33 cd33 ct33:Value}
    {f34:Addr}{od34 an34:Option Addr}{sl34:Array (Option Value)}{oc34 kV34 dc34 pm34 cd34 ct34:Value}
    {f35:Addr}{od35 an35:Option Addr}{sl35:Array (Option Value)}{oc35 kV35 dc35 pm35 cd35 ct35:Value}
    (aC_Circuit:nsIn K mainGlobals "Circuit" = some (some (.ref C_Circuit)))
    (a0:PySem.W.findIn K (.ref C_Circuit) "__init__" = some (some (.ref f0)))
    (l0:K.lookup f0=some ⟨oc0,od0,.func (fnOf "__init__" "Circuit.__init__" (aJ cE) (aI cE) (aE cE) .none kV0 dc0 pm0 an0 cd0 ct0),sl0⟩)
    (c0:codeIn K cd0 "Circuit.__init__" = true)
    (k0:keepIn K (.ref f0)=true)
    (i0:PySem.W.isFn K (.ref f0)=true)
    (pg_Circuit:PySem.W.plainGet K C_Circuit Str.empty=true)
    (hd_Circuit:PySem.W.hasDictIn K C_Circuit=true)
    (po_Circuit:PySem.W.plainOver K C_Circuit=true)
    (sa_Circuit:PySem.W.findIn K (.ref C_Circuit) "__setattr__" = some (some (.builtin "object.__setattr__")))
    (mk_Circuit:PySem.W.makesIn K C_Circuit=true)
    (kc_Circuit:keepIn K (.ref C_Circuit)=true)
    (nA_ins:PySem.W.findIn K (.ref C_Circuit) "ins" = some none)
    (nA_rows:PySem.W.findIn K (.ref C_Circuit) "rows" = some none)
    (nA_outs:PySem.W.findIn K (.ref C_Circuit) "outs" = some none)
    (a1:nsIn K mainGlobals "gate_value" = some (some (.ref f1)))
    (l1:K.lookup f1=some ⟨oc1,od1,.func (fnOf "gate_value" "gate_value" (aJ cU) (aI cU) (aE cU) .none kV1 dc1 pm1 an1 cd1 ct1),sl1⟩)
    (c1:codeIn K cd1 "gate_value" = true)
    (k1:keepIn K (.ref f1)=true)
    (a2:nsIn K mainGlobals "leg_wires" = some (some (.ref f2)))
    (l2:K.lookup f2=some ⟨oc2,od2,.func (fnOf "leg_wires" "leg_wires" (aJ dI) (aI dI) (aE dI) .none kV2 dc2 pm2 an2 cd2 ct2),sl2⟩)
    (c2:codeIn K cd2 "leg_wires" = true)
    (k2:keepIn K (.ref f2)=true)
    (a3:nsIn K mainGlobals "leg_values" = some (some (.ref f3)))
    (l3:K.lookup f3=some ⟨oc3,od3,.func (fnOf "leg_values" "leg_values" (aJ cT) (aI cT) (aE cT) .none kV3 dc3 pm3 an3 cd3 ct3),sl3⟩)
    (c3:codeIn K cd3 "leg_values" = true)
    (k3:keepIn K (.ref f3)=true)
    (a4:nsIn K mainGlobals "on_wire" = some (some (.ref f4)))
    (l4:K.lookup f4=some ⟨oc4,od4,.func (fnOf "on_wire" "on_wire" (aJ fQ) (aI fQ) (aE fQ) .none kV4 dc4 pm4 an4 cd4 ct4),sl4⟩)
    (c4:codeIn K cd4 "on_wire" = true)
    (k4:keepIn K (.ref f4)=true)
    (a5:nsIn K mainGlobals "borne" = some (some (.ref f5)))
    (l5:K.lookup f5=some ⟨oc5,od5,.func (fnOf "borne" "borne" (aJ iT) (aI iT) (aE iT) .none kV5 dc5 pm5 an5 cd5 ct5),sl5⟩)
    (c5:codeIn K cd5 "borne" = true)
    (k5:keepIn K (.ref f5)=true)
    (a6:nsIn K mainGlobals "full_table" = some (some (.ref f6)))
    (l6:K.lookup f6=some ⟨oc6,od6,.func (fnOf "full_table" "full_table" (aJ cV) (aI cV) (aE cV) .none kV6 dc6 pm6 an6 cd6 ct6),sl6⟩)
    (c6:codeIn K cd6 "full_table" = true)
    (k6:keepIn K (.ref f6)=true)
    (a7:nsIn K mainGlobals "input_tables" = some (some (.ref f7)))
    (l7:K.lookup f7=some ⟨oc7,od7,.func (fnOf "input_tables" "input_tables" (aJ cD) (aI cD) (aE cD) .none kV7 dc7 pm7 an7 cd7 ct7),sl7⟩)
    (c7:codeIn K cd7 "input_tables" = true)
    (k7:keepIn K (.ref f7)=true)
    (a8:nsIn K mainGlobals "tables" = some (some (.ref f8)))
    (l8:K.lookup f8=some ⟨oc8,od8,.func (fnOf "tables" "tables" (aJ eQ) (aI eQ) (aE eQ) (.ref T8) kV8 dc8 pm8 an8 cd8 ct8),sl8⟩)
    (c8:codeIn K cd8 "tables" = true)
    (k8:keepIn K (.ref f8)=true)
    (d8:K.lookup T8=some ⟨ocT8,odT8,.seq #[.none] nT8,slT8⟩)
    (a9:nsIn K mainGlobals "at_outs" = some (some (.ref f9)))
    (l9:K.lookup f9=some ⟨oc9,od9,.func (fnOf "at_outs" "at_outs" (aJ fT) (aI fT) (aE fT) .none kV9 dc9 pm9 an9 cd9 ct9),sl9⟩)
    (c9:codeIn K cd9 "at_outs" = true)
    (k9:keepIn K (.ref f9)=true)
    (a10:nsIn K mainGlobals "out_tables" = some (some (.ref f10)))
    (l10:K.lookup f10=some ⟨oc10,od10,.func (fnOf "out_tables" "out_tables" (aJ bS) (aI bS) (aE bS) (.ref T10) kV10 dc10 pm10 an10 cd10 ct10),sl10⟩)
    (c10:codeIn K cd10 "out_tables" = true)
    (k10:keepIn K (.ref f10)=true)
    (d10:K.lookup T10=some ⟨ocT10,odT10,.seq #[.none] nT10,slT10⟩)
    (a11:nsIn K mainGlobals "sources_of" = some (some (.ref f11)))
    (l11:K.lookup f11=some ⟨oc11,od11,.func (fnOf "sources_of" "sources_of" (aJ cS) (aI cS) (aE cS) .none kV11 dc11 pm11 an11 cd11 ct11),sl11⟩)
    (c11:codeIn K cd11 "sources_of" = true)
    (k11:keepIn K (.ref f11)=true)
    (a12:nsIn K mainGlobals "needed" = some (some (.ref f12)))
    (l12:K.lookup f12=some ⟨oc12,od12,.func (fnOf "needed" "needed" (aJ gM) (aI gM) (aE gM) .none kV12 dc12 pm12 an12 cd12 ct12),sl12⟩)
    (c12:codeIn K cd12 "needed" = true)
    (k12:keepIn K (.ref f12)=true)
    (a13:nsIn K mainGlobals "bits_to_stick" = some (some (.ref f13)))
    (l13:K.lookup f13=some ⟨oc13,od13,.func (fnOf "bits_to_stick" "bits_to_stick" (aJ bT) (aI bT) (aE bT) .none kV13 dc13 pm13 an13 cd13 ct13),sl13⟩)
    (c13:codeIn K cd13 "bits_to_stick" = true)
    (k13:keepIn K (.ref f13)=true)
    (a14:nsIn K mainGlobals "all_faults" = some (some (.ref f14)))
    (l14:K.lookup f14=some ⟨oc14,od14,.func (fnOf "all_faults" "all_faults" (aJ cW) (aI cW) (aE cW) .none kV14 dc14 pm14 an14 cd14 ct14),sl14⟩)
    (c14:codeIn K cd14 "all_faults" = true)
    (k14:keepIn K (.ref f14)=true)
    (a15:nsIn K mainGlobals "differing" = some (some (.ref f15)))
    (l15:K.lookup f15=some ⟨oc15,od15,.func (fnOf "differing" "differing" (aJ dO) (aI dO) (aE dO) .none kV15 dc15 pm15 an15 cd15 ct15),sl15⟩)
    (c15:codeIn K cd15 "differing" = true)
    (k15:keepIn K (.ref f15)=true)
    (a16:nsIn K mainGlobals "tellings" = some (some (.ref f16)))
    (l16:K.lookup f16=some ⟨oc16,od16,.func (fnOf "tellings" "tellings" (aJ eE) (aI eE) (aE eE) .none kV16 dc16 pm16 an16 cd16 ct16),sl16⟩)
    (c16:codeIn K cd16 "tellings" = true)
    (k16:keepIn K (.ref f16)=true)
    (a17:nsIn K mainGlobals "to_hit" = some (some (.ref f17)))
    (l17:K.lookup f17=some ⟨oc17,od17,.func (fnOf "to_hit" "to_hit" (aJ gL) (aI gL) (aE gL) .none kV17 dc17 pm17 an17 cd17 ct17),sl17⟩)
    (c17:codeIn K cd17 "to_hit" = true)
    (k17:keepIn K (.ref f17)=true)
    (a18:nsIn K mainGlobals "givens_in" = some (some (.ref f18)))
    (l18:K.lookup f18=some ⟨oc18,od18,.func (fnOf "givens_in" "givens_in" (aJ dN) (aI dN) (aE dN) .none kV18 dc18 pm18 an18 cd18 ct18),sl18⟩)
    (c18:codeIn K cd18 "givens_in" = true)
    (k18:keepIn K (.ref f18)=true)
    (a19:nsIn K mainGlobals "hits_all" = some (some (.ref f19)))
    (l19:K.lookup f19=some ⟨oc19,od19,.func (fnOf "hits_all" "hits_all" (aJ eM) (aI eM) (aE eM) .none kV19 dc19 pm19 an19 cd19 ct19),sl19⟩)
    (c19:codeIn K cd19 "hits_all" = true)
    (k19:keepIn K (.ref f19)=true)
    (a20:nsIn K mainGlobals "thin" = some (some (.ref f20)))
    (l20:K.lookup f20=some ⟨oc20,od20,.func (fnOf "thin" "thin" (aJ kY) (aI kY) (aE kY) .none kV20 dc20 pm20 an20 cd20 ct20),sl20⟩)
    (c20:codeIn K cd20 "thin" = true)
    (k20:keepIn K (.ref f20)=true)
    (a21:nsIn K mainGlobals "thinned" = some (some (.ref f21)))
    (l21:K.lookup f21=some ⟨oc21,od21,.func (fnOf "thinned" "thinned" (aJ dC) (aI dC) (aE dC) .none kV21 dc21 pm21 an21 (.ref cA_lam) ct21),sl21⟩)
    (c21:codeIn K (.ref cA_lam) "thinned" = true)
    (k21:keepIn K (.ref f21)=true)
    (T_lam:PySem.W.codeHdIn K cA_lam P0=true)
    (a22:nsIn K mainGlobals "_law_whole" = some (some (.ref f22)))
    (l22:K.lookup f22=some ⟨oc22,od22,.func (fnOf "_law_whole" "_law_whole" (aJ fR) (aI fR) (aE fR) .none kV22 dc22 pm22 an22 cd22 ct22),sl22⟩)
    (c22:codeIn K cd22 "_law_whole" = true)
    (k22:keepIn K (.ref f22)=true)
    (a23:nsIn K mainGlobals "_law_mixed" = some (some (.ref f23)))
    (l23:K.lookup f23=some ⟨oc23,od23,.func (fnOf "_law_mixed" "_law_mixed" (aJ fS) (aI fS) (aE fS) .none kV23 dc23 pm23 an23 cd23 ct23),sl23⟩)
    (c23:codeIn K cd23 "_law_mixed" = true)
    (k23:keepIn K (.ref f23)=true)
    (a24:nsIn K mainGlobals "_law_row" = some (some (.ref f24)))
    (l24:K.lookup f24=some ⟨oc24,od24,.func (fnOf "_law_row" "_law_row" (aJ iR) (aI iR) (aE iR) .none kV24 dc24 pm24 an24 cd24 ct24),sl24⟩)
    (c24:codeIn K cd24 "_law_row" = true)
    (k24:keepIn K (.ref f24)=true)
    (a25:nsIn K mainGlobals "_law_circuit" = some (some (.ref f25)))
    (l25:K.lookup f25=some ⟨oc25,od25,.func (fnOf "_law_circuit" "_law_circuit" (aJ dL) (aI dL) (aE dL) .none kV25 dc25 pm25 an25 cd25 ct25),sl25⟩)
    (c25:codeIn K cd25 "_law_circuit" = true)
    (k25:keepIn K (.ref f25)=true)
    (a26:nsIn K mainGlobals "_law_seen" = some (some (.ref f26)))
    (l26:K.lookup f26=some ⟨oc26,od26,.func (fnOf "_law_seen" "_law_seen" (aJ gN) (aI gN) (aE gN) .none kV26 dc26 pm26 an26 cd26 ct26),sl26⟩)
    (c26:codeIn K cd26 "_law_seen" = true)
    (k26:keepIn K (.ref f26)=true)
    (a27:nsIn K mainGlobals "_law_column" = some (some (.ref f27)))
    (l27:K.lookup f27=some ⟨oc27,od27,.func (fnOf "_law_column" "_law_column" (aJ eL) (aI eL) (aE eL) .none kV27 dc27 pm27 an27 cd27 ct27),sl27⟩)
    (c27:codeIn K cd27 "_law_column" = true)
    (k27:keepIn K (.ref f27)=true)
    (a28:nsIn K mainGlobals "_law_tables" = some (some (.ref f28)))
    (l28:K.lookup f28=some ⟨oc28,od28,.func (fnOf "_law_tables" "_law_tables" (aJ eG) (aI eG) (aE eG) .none kV28 dc28 pm28 an28 cd28 ct28),sl28⟩)
    (c28:codeIn K cd28 "_law_tables" = true)
    (k28:keepIn K (.ref f28)=true)
    (a29:nsIn K mainGlobals "_law_telling" = some (some (.ref f29)))
    (l29:K.lookup f29=some ⟨oc29,od29,.func (fnOf "_law_telling" "_law_telling" (aJ dJ) (aI dJ) (aE dJ) .none kV29 dc29 pm29 an29 cd29 ct29),sl29⟩)
    (c29:codeIn K cd29 "_law_telling" = true)
    (k29:keepIn K (.ref f29)=true)
    (a30:nsIn K mainGlobals "_law_legs" = some (some (.ref f30)))
    (l30:K.lookup f30=some ⟨oc30,od30,.func (fnOf "_law_legs" "_law_legs" (aJ gO) (aI gO) (aE gO) .none kV30 dc30 pm30 an30 cd30 ct30),sl30⟩)
    (c30:codeIn K cd30 "_law_legs" = true)
    (k30:keepIn K (.ref f30)=true)
    (a31:nsIn K mainGlobals "_law_needed" = some (some (.ref f31)))
    (l31:K.lookup f31=some ⟨oc31,od31,.func (fnOf "_law_needed" "_law_needed" (aJ eI) (aI eI) (aE eI) .none kV31 dc31 pm31 an31 cd31 ct31),sl31⟩)
    (c31:codeIn K cd31 "_law_needed" = true)
    (k31:keepIn K (.ref f31)=true)
    (a32:nsIn K mainGlobals "_law_bits_at" = some (some (.ref f32)))
    (l32:K.lookup f32=some ⟨oc32,od32,.func (fnOf "_law_bits_at" "_law_bits_at" (aJ dM) (aI dM) (aE dM) .none kV32 dc32 pm32 an32 cd32 ct32),sl32⟩)
    (c32:codeIn K cd32 "_law_bits_at" = true)
    (k32:keepIn K (.ref f32)=true)
    (a33:nsIn K mainGlobals "_law_faults" = some (some (.ref f33)))
    (l33:K.lookup f33=some ⟨oc33,od33,.func (fnOf "_law_faults" "_law_faults" (aJ eJ) (aI eJ) (aE eJ) .none kV33 dc33 pm33 an33 cd33 ct33),sl33⟩)
    (c33:codeIn K cd33 "_law_faults" = true)
    (k33:keepIn K (.ref f33)=true)
    (a34:nsIn K mainGlobals "_law_all" = some (some (.ref f34)))
    (l34:K.lookup f34=some ⟨oc34,od34,.func (fnOf "_law_all" "_law_all" (aJ iS) (aI iS) (aE iS) .none kV34 dc34 pm34 an34 cd34 ct34),sl34⟩)
    (c34:codeIn K cd34 "_law_all" = true)
    (k34:keepIn K (.ref f34)=true)
    (a35:nsIn K mainGlobals "law" = some (some (.ref f35)))
    (l35:K.lookup f35=some ⟨oc35,od35,.func (fnOf "law" "law" (aJ lL) (aI lL) (aE lL) .none kV35 dc35 pm35 an35 cd35 ct35),sl35⟩)
    (c35:codeIn K cd35 "law" = true)
    (k35:keepIn K (.ref f35)=true)
    (y_all:nsIn K mainGlobals "all" = some none)
    (y_bool:nsIn K mainGlobals "bool" = some none)
    (y_enumerate:nsIn K mainGlobals "enumerate" = some none)
    (y_int:nsIn K mainGlobals "int" = some none)
    (y_isinstance:nsIn K mainGlobals "isinstance" = some none)
    (y_len:nsIn K mainGlobals "len" = some none)
    (y_list:nsIn K mainGlobals "list" = some none)
    (y_min:nsIn K mainGlobals "min" = some none)
    (y_range:nsIn K mainGlobals "range" = some none)
    (y_sorted:nsIn K mainGlobals "sorted" = some none)
    (y_sum:nsIn K mainGlobals "sum" = some none)
    (y_tuple:nsIn K mainGlobals "tuple" = some none)
    (y_zip:nsIn K mainGlobals "zip" = some none) :
    ∃ (fd:FuncData) (m:List D->Option D),(∀ (s:Shared) (u:Value),BindsTo s fd ⟨[u],[]⟩ [("_law_script",u)]) /\ (∀ ns:List Int,ns.length <= 63->(∀ i ∈ ns,Builtin.Int.intBits i <= 1048576)->m [.lst (ns.map D.int)]=some (.bl true)) /\
      ∀ base:Heap,K.In base->base.Ns mainGlobals mg->base.BuiltinsAt mg P0->FnOk l.prog w K mg base CX0 9 fa fd ["_law_script"] (spT K P0 (lamPos l_lam,q_lam) 1 m):=by
  have e:=hfa.symm.trans (mg_of X G a35)
  cases e
  have z_all:=PySem.W.mg_none_of X G y_all
  have z_bool:=PySem.W.mg_none_of X G y_bool
  have z_enumerate:=PySem.W.mg_none_of X G y_enumerate
  have z_int:=PySem.W.mg_none_of X G y_int
  have z_isinstance:=PySem.W.mg_none_of X G y_isinstance
  have z_len:=PySem.W.mg_none_of X G y_len
  have z_list:=PySem.W.mg_none_of X G y_list
  have z_min:=PySem.W.mg_none_of X G y_min
  have z_range:=PySem.W.mg_none_of X G y_range
  have z_sorted:=PySem.W.mg_none_of X G y_sorted
  have z_sum:=PySem.W.mg_none_of X G y_sum
  have z_tuple:=PySem.W.mg_none_of X G y_tuple
  have z_zip:=PySem.W.mg_none_of X G y_zip
  have hC_Circuit:Cls K C_Circuit:=⟨pg_Circuit,hd_Circuit,po_Circuit,sa_Circuit⟩
  have F0:=bE (st:=cE) l0 c0 k0
  have b0:Binds K _ ["self","ins","rows","outs"] []:=.all (fd:=fnOf "__init__" "Circuit.__init__" (aJ cE) (aI cE) (aE cE) .none kV0 dc0 pm0 an0 cd0 ct0) (us4 fun _ _ _ _=>rfl)
  have F1:=bE (st:=cU) l1 c1 k1
  have b1:Binds K (fnOf "gate_value" "gate_value" (aJ cU) (aI cU) (aE cU) .none kV1 dc1 pm1 an1 cd1 ct1) ["row","legs","ones"] []:=.all (us3 fun _ _ _=>rfl)
  have F2:=bE (st:=dI) l2 c2 k2
  have b2:Binds K (fnOf "leg_wires" "leg_wires" (aJ dI) (aI dI) (aE dI) .none kV2 dc2 pm2 an2 cd2 ct2) ["row"] []:=.all (us1 fun _=>rfl)
  have F3:=bE (st:=cT) l3 c3 k3
  have b3:Binds K (fnOf "leg_values" "leg_values" (aJ cT) (aI cT) (aE cT) .none kV3 dc3 pm3 an3 cd3 ct3) ["row","wire","values","ones","fault"] []:=.all (us5 fun _ _ _ _ _=>rfl)
  have F4:=bE (st:=fQ) l4 c4 k4
  have b4:Binds K (fnOf "on_wire" "on_wire" (aJ fQ) (aI fQ) (aE fQ) .none kV4 dc4 pm4 an4 cd4 ct4) ["value","wire","ones","fault"] []:=.all (us4 fun _ _ _ _=>rfl)
  have F5:=bE (st:=iT) l5 c5 k5
  have b5:Binds K (fnOf "borne" "borne" (aJ iT) (aI iT) (aE iT) .none kV5 dc5 pm5 an5 cd5 ct5) ["circuit","starts","ones","fault"] []:=.all (us4 fun _ _ _ _=>rfl)
  have F6:=bE (st:=cV) l6 c6 k6
  have b6:Binds K (fnOf "full_table" "full_table" (aJ cV) (aI cV) (aE cV) .none kV6 dc6 pm6 an6 cd6 ct6) ["ins"] []:=.all (us1 fun _=>rfl)
  have F7:=bE (st:=cD) l7 c7 k7
  have b7:Binds K (fnOf "input_tables" "input_tables" (aJ cD) (aI cD) (aE cD) .none kV7 dc7 pm7 an7 cd7 ct7) ["ins"] []:=.all (us1 fun _=>rfl)
  have F8:=bE (st:=eQ) l8 c8 k8
  have b8:Binds K (fnOf "tables" "tables" (aJ eQ) (aI eQ) (aE eQ) (.ref T8) kV8 dc8 pm8 an8 cd8 ct8) ["circuit","fault"] []:=fun s us ks hl=>match us,hl with | [_,_],_=>.of_defaults rfl (ks _ _ d8) rfl rfl rfl
  have bd8:Binds K (fnOf "tables" "tables" (aJ eQ) (aI eQ) (aE eQ) (.ref T8) kV8 dc8 pm8 an8 cd8 ct8) ["circuit","fault"] [.none]:=fun s us ks hl=>(match us,(show us.length=1 by simpa using hl) with | [_],_=>.of_defaults rfl (ks _ _ d8) rfl rfl rfl)
  have F9:=bE (st:=fT) l9 c9 k9
  have b9:Binds K (fnOf "at_outs" "at_outs" (aJ fT) (aI fT) (aE fT) .none kV9 dc9 pm9 an9 cd9 ct9) ["circuit","values"] []:=.all (us2 fun _ _=>rfl)
  have F10:=bE (st:=bS) l10 c10 k10
  have b10:Binds K (fnOf "out_tables" "out_tables" (aJ bS) (aI bS) (aE bS) (.ref T10) kV10 dc10 pm10 an10 cd10 ct10) ["circuit","fault"] []:=fun s us ks hl=>match us,hl with | [_,_],_=>.of_defaults rfl (ks _ _ d10) rfl rfl rfl
  have bd10:Binds K (fnOf "out_tables" "out_tables" (aJ bS) (aI bS) (aE bS) (.ref T10) kV10 dc10 pm10 an10 cd10 ct10) ["circuit","fault"] [.none]:=fun s us ks hl=>(match us,(show us.length=1 by simpa using hl) with | [_],_=>.of_defaults rfl (ks _ _ d10) rfl rfl rfl)
  have F11:=bE (st:=cS) l11 c11 k11
  have b11:Binds K (fnOf "sources_of" "sources_of" (aJ cS) (aI cS) (aE cS) .none kV11 dc11 pm11 an11 cd11 ct11) ["circuit","wire"] []:=.all (us2 fun _ _=>rfl)
  have F12:=bE (st:=gM) l12 c12 k12
  have b12:Binds K (fnOf "needed" "needed" (aJ gM) (aI gM) (aE gM) .none kV12 dc12 pm12 an12 cd12 ct12) ["circuit"] []:=.all (us1 fun _=>rfl)
  have F13:=bE (st:=bT) l13 c13 k13
  have b13:Binds K (fnOf "bits_to_stick" "bits_to_stick" (aJ bT) (aI bT) (aE bT) .none kV13 dc13 pm13 an13 cd13 ct13) ["circuit","wire"] []:=.all (us2 fun _ _=>rfl)
  have F14:=bE (st:=cW) l14 c14 k14
  have b14:Binds K (fnOf "all_faults" "all_faults" (aJ cW) (aI cW) (aE cW) .none kV14 dc14 pm14 an14 cd14 ct14) ["circuit"] []:=.all (us1 fun _=>rfl)
  have F15:=bE (st:=dO) l15 c15 k15
  have b15:Binds K (fnOf "differing" "differing" (aJ dO) (aI dO) (aE dO) .none kV15 dc15 pm15 an15 cd15 ct15) ["one_tables","other_tables"] []:=.all (us2 fun _ _=>rfl)
  have F16:=bE (st:=eE) l16 c16 k16
  have b16:Binds K (fnOf "tellings" "tellings" (aJ eE) (aI eE) (aE eE) .none kV16 dc16 pm16 an16 cd16 ct16) ["circuit","faults"] []:=.all (us2 fun _ _=>rfl)
  have F17:=bE (st:=gL) l17 c17 k17
  have b17:Binds K (fnOf "to_hit" "to_hit" (aJ gL) (aI gL) (aE gL) .none kV17 dc17 pm17 an17 cd17 ct17) ["circuit"] []:=.all (us1 fun _=>rfl)
  have F18:=bE (st:=dN) l18 c18 k18
  have b18:Binds K (fnOf "givens_in" "givens_in" (aJ dN) (aI dN) (aE dN) .none kV18 dc18 pm18 an18 cd18 ct18) ["marks"] []:=.all (us1 fun _=>rfl)
  have F19:=bE (st:=eM) l19 c19 k19
  have b19:Binds K (fnOf "hits_all" "hits_all" (aJ eM) (aI eM) (aE eM) .none kV19 dc19 pm19 an19 cd19 ct19) ["marks","wanted"] []:=.all (us2 fun _ _=>rfl)
  have F20:=bE (st:=kY) l20 c20 k20
  have b20:Binds K (fnOf "thin" "thin" (aJ kY) (aI kY) (aE kY) .none kV20 dc20 pm20 an20 cd20 ct20) ["marks","spare","is_enough"] []:=.all (us3 fun _ _ _=>rfl)
  have F21:=bE (st:=dC) l21 c21 k21
  have b21:Binds K (fnOf "thinned" "thinned" (aJ dC) (aI dC) (aE dC) .none kV21 dc21 pm21 an21 (.ref cA_lam) ct21) ["circuit"] []:=.all (us1 fun _=>rfl)
  have F22:=bE (st:=fR) l22 c22 k22
  have b22:Binds K (fnOf "_law_whole" "_law_whole" (aJ fR) (aI fR) (aE fR) .none kV22 dc22 pm22 an22 cd22 ct22) ["_law_found"] []:=.all (us1 fun _=>rfl)
  have F23:=bE (st:=fS) l23 c23 k23
  have b23:Binds K (fnOf "_law_mixed" "_law_mixed" (aJ fS) (aI fS) (aE fS) .none kV23 dc23 pm23 an23 cd23 ct23) ["_law_cell","_law_k"] []:=.all (us2 fun _ _=>rfl)
  have F24:=bE (st:=iR) l24 c24 k24
  have b24:Binds K (fnOf "_law_row" "_law_row" (aJ iR) (aI iR) (aE iR) .none kV24 dc24 pm24 an24 cd24 ct24) ["_law_mixed_here","_law_wires","_law_near"] []:=.all (us3 fun _ _ _=>rfl)
  have F25:=bE (st:=dL) l25 c25 k25
  have b25:Binds K (fnOf "_law_circuit" "_law_circuit" (aJ dL) (aI dL) (aE dL) .none kV25 dc25 pm25 an25 cd25 ct25) ["_law_cells","_law_ins","_law_most","_law_many"] []:=.all (us4 fun _ _ _ _=>rfl)
  have F26:=bE (st:=gN) l26 c26 k26
  have b26:Binds K (fnOf "_law_seen" "_law_seen" (aJ gN) (aI gN) (aE gN) .none kV26 dc26 pm26 an26 cd26 ct26) ["_law_found","_law_row_here","_law_wire","_law_leg","_law_fault","_law_most"] []:=.all (us6 fun _ _ _ _ _ _=>rfl)
  have F27:=bE (st:=eL) l27 c27 k27
  have b27:Binds K (fnOf "_law_column" "_law_column" (aJ eL) (aI eL) (aE eL) .none kV27 dc27 pm27 an27 cd27 ct27) ["_law_found","_law_row_here","_law_wire","_law_fault","_law_most"] []:=.all (us5 fun _ _ _ _ _=>rfl)
  have F28:=bE (st:=eG) l28 c28 k28
  have b28:Binds K (fnOf "_law_tables" "_law_tables" (aJ eG) (aI eG) (aE eG) .none kV28 dc28 pm28 an28 cd28 ct28) ["_law_ins","_law_rows","_law_fault"] []:=.all (us3 fun _ _ _=>rfl)
  have F29:=bE (st:=dJ) l29 c29 k29
  have b29:Binds K (fnOf "_law_telling" "_law_telling" (aJ dJ) (aI dJ) (aE dJ) .none kV29 dc29 pm29 an29 cd29 ct29) ["_law_ins","_law_rows","_law_outs","_law_fault"] []:=.all (us4 fun _ _ _ _=>rfl)
  have F30:=bE (st:=gO) l30 c30 k30
  have b30:Binds K (fnOf "_law_legs" "_law_legs" (aJ gO) (aI gO) (aE gO) .none kV30 dc30 pm30 an30 cd30 ct30) ["_law_ins","_law_rows","_law_wire"] []:=.all (us3 fun _ _ _=>rfl)
  have F31:=bE (st:=eI) l31 c31 k31
  have b31:Binds K (fnOf "_law_needed" "_law_needed" (aJ eI) (aI eI) (aE eI) .none kV31 dc31 pm31 an31 cd31 ct31) ["_law_ins","_law_rows","_law_outs"] []:=.all (us3 fun _ _ _=>rfl)
  have F32:=bE (st:=dM) l32 c32 k32
  have b32:Binds K (fnOf "_law_bits_at" "_law_bits_at" (aJ dM) (aI dM) (aE dM) .none kV32 dc32 pm32 an32 cd32 ct32) ["_law_ins","_law_rows","_law_wire"] []:=.all (us3 fun _ _ _=>rfl)
  have F33:=bE (st:=eJ) l33 c33 k33
  have b33:Binds K (fnOf "_law_faults" "_law_faults" (aJ eJ) (aI eJ) (aE eJ) .none kV33 dc33 pm33 an33 cd33 ct33) ["_law_ins","_law_rows","_law_outs"] []:=.all (us3 fun _ _ _=>rfl)
  have F34:=bE (st:=iS) l34 c34 k34
  have b34:Binds K (fnOf "_law_all" "_law_all" (aJ iS) (aI iS) (aE iS) .none kV34 dc34 pm34 an34 cd34 ct34) ["_law_masks","_law_tests"] []:=.all (us2 fun _ _=>rfl)
  have F35:=bE (st:=lL) l35 c35 k35
  have b35:Binds K (fnOf "law" "law" (aJ lL) (aI lL) (aE lL) .none kV35 dc35 pm35 an35 cd35 ct35) ["_law_script"] []:=.all (us1 fun _=>rfl)
  refine⟨fnOf "law" "law" (aJ lL) (aI lL) (aE lL) .none kV35 dc35 pm35 an35 cd35 ct35,Y1 C_Circuit,fun s u=>.of_eq rfl,Y4,fun base KB NB BB=>?_⟩
  have mk_Circuit:Z0n l.prog w K mg base "Circuit" C_Circuit 1 3 (gG C_Circuit):=⟨⟨f0,_,_,⟨mk_Circuit,a0,i0,kc_Circuit⟩,qB F0 z_list z_tuple hC_Circuit nA_ins nA_rows nA_outs,mg_of X G aC_Circuit,b0⟩⟩
  have G1:FnOk l.prog w K mg base CX0 1 f1 _ _ (spD K 3 (cM C_Circuit)):=sT (C:=C_Circuit) F1
  have Cc1:aN l.prog w K mg base "gate_value" [] 1 3 (cM C_Circuit):=⟨⟨f1,_,_,[],[],G1,mg_of X G a1,k1,b1,.nil,fun _=>gA⟩⟩
  have G2:FnOk l.prog w K mg base CX0 1 f2 _ _ (spD K 1 (cH C_Circuit)):=uZ (C:=C_Circuit) F2 z_list
  have Cc2:aN l.prog w K mg base "leg_wires" [] 1 1 (cH C_Circuit):=⟨⟨f2,_,_,[],[],G2,mg_of X G a2,k2,b2,.nil,fun _=>gA⟩⟩
  have G3:FnOk l.prog w K mg base CX0 2 f3 _ _ (spD K 5 (cG C_Circuit)):=sS (C:=C_Circuit) F3 Cc2
  have Cc3:aN l.prog w K mg base "leg_values" [] 2 5 (cG C_Circuit):=⟨⟨f3,_,_,[],[],G3,mg_of X G a3,k3,b3,.nil,fun _=>gA⟩⟩
  have G4:FnOk l.prog w K mg base CX0 1 f4 _ _ (spD K 4 (dH C_Circuit)):=zO (C:=C_Circuit) F4
  have Cc4:aN l.prog w K mg base "on_wire" [] 1 4 (dH C_Circuit):=⟨⟨f4,_,_,[],[],G4,mg_of X G a4,k4,b4,.nil,fun _=>gA⟩⟩
  have G5:FnOk l.prog w K mg base CX0 3 f5 _ _ (spD K 4 (mO C_Circuit)):=X5 (C:=C_Circuit) F5 Cc1 Cc3 Cc4 z_len hC_Circuit nA_rows
  have Cc5:aN l.prog w K mg base "borne" [] 3 4 (mO C_Circuit):=⟨⟨f5,_,_,[],[],G5,mg_of X G a5,k5,b5,.nil,fun _=>gA⟩⟩
  have G6:FnOk l.prog w K mg base CX0 1 f6 _ _ (spD K 1 (bW C_Circuit)):=sU (C:=C_Circuit) F6
  have Cc6:aN l.prog w K mg base "full_table" [] 1 1 (bW C_Circuit):=⟨⟨f6,_,_,[],[],G6,mg_of X G a6,k6,b6,.nil,fun _=>gA⟩⟩
  have G7:FnOk l.prog w K mg base CX0 2 f7 _ _ (spD K 1 (dY C_Circuit)):=qA (C:=C_Circuit) F7 Cc6 z_range
  have Cc7:aN l.prog w K mg base "input_tables" [] 2 1 (dY C_Circuit):=⟨⟨f7,_,_,[],[],G7,mg_of X G a7,k7,b7,.nil,fun _=>gA⟩⟩
  have G8:FnOk l.prog w K mg base CX0 4 f8 _ _ (spD K 2 (jF C_Circuit)):=N3 (C:=C_Circuit) F8 Cc5 Cc6 Cc7 hC_Circuit nA_ins
  have Cc8:aN l.prog w K mg base "tables" [] 4 2 (jF C_Circuit):=⟨⟨f8,_,_,[],[],G8,mg_of X G a8,k8,b8,.nil,fun _=>gA⟩⟩
  have Cc_tables_d:aN l.prog w K mg base "tables" [.non] 4 2 (jF C_Circuit):=⟨⟨f8,_,_,[.non],[.none],G8,mg_of X G a8,k8,bd8,.cons rfl .nil,fun H=>by simp only [Reps];exact⟨.non,[],[],[],rfl,rfl,oR,rfl,rfl⟩⟩⟩
  have G9:FnOk l.prog w K mg base CX0 1 f9 _ _ (spD K 2 (iY C_Circuit)):=zR (C:=C_Circuit) F9 hC_Circuit nA_outs
  have Cc9:aN l.prog w K mg base "at_outs" [] 1 2 (iY C_Circuit):=⟨⟨f9,_,_,[],[],G9,mg_of X G a9,k9,b9,.nil,fun _=>gA⟩⟩
  have G10:FnOk l.prog w K mg base CX0 5 f10 _ _ (spD K 2 (cL C_Circuit)):=sR (C:=C_Circuit) F10 Cc9 Cc8
  have Cc10:aN l.prog w K mg base "out_tables" [] 5 2 (cL C_Circuit):=⟨⟨f10,_,_,[],[],G10,mg_of X G a10,k10,b10,.nil,fun _=>gA⟩⟩
  have Cc_out_tables_d:aN l.prog w K mg base "out_tables" [.non] 5 2 (cL C_Circuit):=⟨⟨f10,_,_,[.non],[.none],G10,mg_of X G a10,k10,bd10,.cons rfl .nil,fun H=>by simp only [Reps];exact⟨.non,[],[],[],rfl,rfl,oR,rfl,rfl⟩⟩⟩
  have G11:FnOk l.prog w K mg base CX0 2 f11 _ _ (spD K 2 (bV C_Circuit)):=sQ (C:=C_Circuit) F11 Cc2 hC_Circuit nA_ins nA_rows
  have Cc11:aN l.prog w K mg base "sources_of" [] 2 2 (bV C_Circuit):=⟨⟨f11,_,_,[],[],G11,mg_of X G a11,k11,b11,.nil,fun _=>gA⟩⟩
  have G12:FnOk l.prog w K mg base CX0 3 f12 _ _ (spD K 1 (kQ C_Circuit)):=N4 (C:=C_Circuit) F12 Cc11 z_len z_range z_sorted hC_Circuit nA_ins nA_outs nA_rows
  have Cc12:aN l.prog w K mg base "needed" [] 3 1 (kQ C_Circuit):=⟨⟨f12,_,_,[],[],G12,mg_of X G a12,k12,b12,.nil,fun _=>gA⟩⟩
  have G13:FnOk l.prog w K mg base CX0 1 f13 _ _ (spD K 2 (bB C_Circuit)):=oO (C:=C_Circuit) F13 hC_Circuit nA_ins nA_rows
  have Cc13:aN l.prog w K mg base "bits_to_stick" [] 1 2 (bB C_Circuit):=⟨⟨f13,_,_,[],[],G13,mg_of X G a13,k13,b13,.nil,fun _=>gA⟩⟩
  have G14:FnOk l.prog w K mg base CX0 4 f14 _ _ (spD K 1 (fW C_Circuit)):=sV (C:=C_Circuit) F14 Cc13 Cc12 Cc11 z_enumerate
  have Cc14:aN l.prog w K mg base "all_faults" [] 4 1 (fW C_Circuit):=⟨⟨f14,_,_,[],[],G14,mg_of X G a14,k14,b14,.nil,fun _=>gA⟩⟩
  have G15:FnOk l.prog w K mg base CX0 1 f15 _ _ (spD K 2 (gF C_Circuit)):=vE (C:=C_Circuit) F15 z_zip
  have Cc15:aN l.prog w K mg base "differing" [] 1 2 (gF C_Circuit):=⟨⟨f15,_,_,[],[],G15,mg_of X G a15,k15,b15,.nil,fun _=>gA⟩⟩
  have G16:FnOk l.prog w K mg base CX0 6 f16 _ _ (spD K 2 (hV C_Circuit)):=wZ (C:=C_Circuit) F16 Cc15 Cc_out_tables_d Cc10
  have Cc16:aN l.prog w K mg base "tellings" [] 6 2 (hV C_Circuit):=⟨⟨f16,_,_,[],[],G16,mg_of X G a16,k16,b16,.nil,fun _=>gA⟩⟩
  have G17:FnOk l.prog w K mg base CX0 7 f17 _ _ (spD K 1 (kO C_Circuit)):=N2 (C:=C_Circuit) F17 Cc14 Cc16 z_zip
  have Cc17:aN l.prog w K mg base "to_hit" [] 7 1 (kO C_Circuit):=⟨⟨f17,_,_,[],[],G17,mg_of X G a17,k17,b17,.nil,fun _=>gA⟩⟩
  have G18:FnOk l.prog w K mg base CX0 1 f18 _ _ (spD K 1 (eD C_Circuit)):=vD (C:=C_Circuit) F18 z_range
  have Cc18:aN l.prog w K mg base "givens_in" [] 1 1 (eD C_Circuit):=⟨⟨f18,_,_,[],[],G18,mg_of X G a18,k18,b18,.nil,fun _=>gA⟩⟩
  have G19:FnOk l.prog w K mg base CX0 1 f19 _ _ (spD K 2 (fL C_Circuit)):=xE (C:=C_Circuit) F19 z_all
  have Cc19:aN l.prog w K mg base "hits_all" [] 1 2 (fL C_Circuit):=⟨⟨f19,_,_,[],[],G19,mg_of X G a19,k19,b19,.nil,fun _=>gA⟩⟩
  have Cc20:wB l.prog w K mg base "thin" 3 3 Z0l (oS C_Circuit):=⟨⟨f20,_,_,Z13 (C:=C_Circuit) F20 Cc19,mg_of X G a20,k20,b20,rfl⟩⟩
  have L_lam:LamIn (fnOf "thinned" "thinned" (aJ dC) (aI dC) (aE dC) .none kV21 dc21 pm21 an21 (.ref cA_lam) ct21) base mg P0:=⟨⟨cA_lam,rfl,PySem.W.codeHd_of_K KB T_lam⟩,BB⟩
  have Cc21:wA l.prog w K mg base "thinned" P0 (lamPos l_lam,q_lam) 8 1 (kP C_Circuit):=⟨⟨f21,_,_,zN (C:=C_Circuit) F21 Cc6 Cc18 Cc20 Cc17 L_lam hC_Circuit nA_ins,mg_of X G a21,k21,b21⟩⟩
  have G22:FnOk l.prog w K mg base CX0 1 f22 _ _ (spD K 1 (hX C_Circuit)):=zP (C:=C_Circuit) F22 z_bool z_int z_isinstance
  have Cc22:aN l.prog w K mg base "_law_whole" [] 1 1 (hX C_Circuit):=⟨⟨f22,_,_,[],[],G22,mg_of X G a22,k22,b22,.nil,fun _=>gA⟩⟩
  have G23:FnOk l.prog w K mg base CX0 1 f23 _ _ (spD K 2 (eT C_Circuit)):=zQ (C:=C_Circuit) F23
  have Cc23:aN l.prog w K mg base "_law_mixed" [] 1 2 (eT C_Circuit):=⟨⟨f23,_,_,[],[],G23,mg_of X G a23,k23,b23,.nil,fun _=>gA⟩⟩
  have G24:FnOk l.prog w K mg base CX0 1 f24 _ _ (spD K 3 (jV C_Circuit)):=X3 (C:=C_Circuit) F24 z_min
  have Cc24:aN l.prog w K mg base "_law_row" [] 1 3 (jV C_Circuit):=⟨⟨f24,_,_,[],[],G24,mg_of X G a24,k24,b24,.nil,fun _=>gA⟩⟩
  have G25:FnOk l.prog w K mg base CX0 2 f25 _ _ (spD K 4 (fK C_Circuit)):=vB (C:=C_Circuit) F25 Cc23 Cc24 z_enumerate z_int z_len z_range z_sum
  have Cc25:aN l.prog w K mg base "_law_circuit" [] 2 4 (fK C_Circuit):=⟨⟨f25,_,_,[],[],G25,mg_of X G a25,k25,b25,.nil,fun _=>gA⟩⟩
  have G26:FnOk l.prog w K mg base CX0 1 f26 _ _ (spD K 6 (jG C_Circuit)):=N5 (C:=C_Circuit) F26
  have Cc26:aN l.prog w K mg base "_law_seen" [] 1 6 (jG C_Circuit):=⟨⟨f26,_,_,[],[],G26,mg_of X G a26,k26,b26,.nil,fun _=>gA⟩⟩
  have G27:FnOk l.prog w K mg base CX0 2 f27 _ _ (spD K 5 (eO C_Circuit)):=xD (C:=C_Circuit) F27 Cc26
  have Cc27:aN l.prog w K mg base "_law_column" [] 2 5 (eO C_Circuit):=⟨⟨f27,_,_,[],[],G27,mg_of X G a27,k27,b27,.nil,fun _=>gA⟩⟩
  have G28:FnOk l.prog w K mg base CX0 3 f28 _ _ (spD K 3 (fI C_Circuit)):=xA (C:=C_Circuit) F28 Cc27 z_len z_range z_sum
  have Cc28:aN l.prog w K mg base "_law_tables" [] 3 3 (fI C_Circuit):=⟨⟨f28,_,_,[],[],G28,mg_of X G a28,k28,b28,.nil,fun _=>gA⟩⟩
  have G29:FnOk l.prog w K mg base CX0 4 f29 _ _ (spD K 4 (eB C_Circuit)):=vA (C:=C_Circuit) F29 Cc28
  have Cc29:aN l.prog w K mg base "_law_telling" [] 4 4 (eB C_Circuit):=⟨⟨f29,_,_,[],[],G29,mg_of X G a29,k29,b29,.nil,fun _=>gA⟩⟩
  have G30:FnOk l.prog w K mg base CX0 1 f30 _ _ (spD K 3 (gU C_Circuit)):=N6 (C:=C_Circuit) F30 z_list
  have Cc30:aN l.prog w K mg base "_law_legs" [] 1 3 (gU C_Circuit):=⟨⟨f30,_,_,[],[],G30,mg_of X G a30,k30,b30,.nil,fun _=>gA⟩⟩
  have G31:FnOk l.prog w K mg base CX0 2 f31 _ _ (spD K 3 (gC C_Circuit)):=xB (C:=C_Circuit) F31 Cc30 z_len z_sorted
  have Cc31:aN l.prog w K mg base "_law_needed" [] 2 3 (gC C_Circuit):=⟨⟨f31,_,_,[],[],G31,mg_of X G a31,k31,b31,.nil,fun _=>gA⟩⟩
  have G32:FnOk l.prog w K mg base CX0 1 f32 _ _ (spD K 3 (cZ C_Circuit)):=vC (C:=C_Circuit) F32
  have Cc32:aN l.prog w K mg base "_law_bits_at" [] 1 3 (cZ C_Circuit):=⟨⟨f32,_,_,[],[],G32,mg_of X G a32,k32,b32,.nil,fun _=>gA⟩⟩
  have G33:FnOk l.prog w K mg base CX0 3 f33 _ _ (spD K 3 (fJ C_Circuit)):=xC (C:=C_Circuit) F33 Cc32 Cc30 Cc31 z_enumerate
  have Cc33:aN l.prog w K mg base "_law_faults" [] 3 3 (fJ C_Circuit):=⟨⟨f33,_,_,[],[],G33,mg_of X G a33,k33,b33,.nil,fun _=>gA⟩⟩
  have G34:FnOk l.prog w K mg base CX0 1 f34 _ _ (spD K 2 (iV C_Circuit)):=X4 (C:=C_Circuit) F34 z_len
  have Cc34:aN l.prog w K mg base "_law_all" [] 1 2 (iV C_Circuit):=⟨⟨f34,_,_,[],[],G34,mg_of X G a34,k34,b34,.nil,fun _=>gA⟩⟩
  exact Z2s (C:=C_Circuit) F35 Cc34 Cc25 Cc33 Cc29 Cc22 Cc21 mk_Circuit z_isinstance z_len z_list z_range z_sum
end G
open PySem PySem.W PyProof.Rows
set_option maxRecDepth 100000 in
set_option maxHeartbeats 0 in
theorem PySem.Challenge.cw_stuckwire_k41_thinned_rows_holds : PySem.Challenge.rw_stuckwire_k41_thinned_rows.Holds := by
  w_on; o_law; k_head; (case hw => w_witness2)
  k_fill
  refine PD.walkT (c₀ := 162) (P₀ := 158) (pq := (PD.lamPos G.l_lam, G.q_lam)) (l := PySem.Challenge.rw_stuckwire_k41_thinned_rows) (n := 63) (k := 9) (x := "_law_script") rfl (by decide) rfl ⟨rfl, by decide, by decide⟩ (fun w h Y => PySem.W.km_in_of Y) (fun w h Y => (PySem.W.codeHd_of_K (PySem.W.km_in_of Y) (by kernel_rfl)).tab (PySem.W.km_tabs_of Y _ (by k_mem))) (fun w => by kernel_rfl) ?F
  case F =>
    intro w mg fa h KX GX hmg
    refine' G.head_mk KX GX hmg ?_ ?_ ?_ ?_ ?_ ?_ ?_ ?_ ?_ ?_ ?_ ?_ ?_ ?_ ?_ ?_ ?_ ?_ ?_ ?_ ?_ ?_ ?_ ?_ ?_ ?_ ?_ ?_ ?_ ?_ ?_ ?_ ?_ ?_ ?_ ?_ ?_ ?_ ?_ ?_ ?_ ?_ ?_ ?_ ?_ ?_ ?_ ?_ ?_ ?_ ?_ ?_ ?_ ?_ ?_ ?_ ?_ ?_ ?_ ?_ ?_ ?_ ?_ ?_ ?_ ?_ ?_ ?_ ?_ ?_ ?_ ?_ ?_ ?_ ?_ ?_ ?_ ?_ ?_ ?_ ?_ ?_ ?_ ?_ ?_ ?_ ?_ ?_ ?_ ?_ ?_ ?_ ?_ ?_ ?_ ?_ ?_ ?_ ?_ ?_ ?_ ?_ ?_ ?_ ?_ ?_ ?_ ?_ ?_ ?_ ?_ ?_ ?_ ?_ ?_ ?_ ?_ ?_ ?_ ?_ ?_ ?_ ?_ ?_ ?_ ?_ ?_ ?_ ?_ ?_ ?_ ?_ ?_ ?_ ?_ ?_ ?_ ?_ ?_ ?_ ?_ ?_ ?_ ?_ ?_ ?_ ?_ ?_ ?_ ?_ ?_ ?_ ?_ ?_ ?_ ?_ ?_ ?_ ?_ ?_ ?_ ?_ ?_ ?_ ?_ ?_ ?_ ?_ ?_ ?_ ?_
    any_goals k_is
    all_goals first | (kernel_rfl)
