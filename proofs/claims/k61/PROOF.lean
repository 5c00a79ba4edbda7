import PyProof.Rows.All
import Wide.All
import OpenK.AllK
import Wide.FinOn
import Lean
import PyProof.EqAt
import PyProof.EqKinds
import PyProof.TupleCall
import KE.KRevIter
import PyProof.ListRange
import PyProof.ZipIter
import PyProof.Rows.ZipGen
import KE.KDictSum
import KE.KRevSl
import PyProof.DictWalks
import PyProof.DictIter
import KE.KDictLaws
import PyProof.StrReplace2
import PyProof.CallStr
import KE.KNestM
import KE.KLam
import PyProof.RaisesMany
import PyProof.ExcClass3
import PyProof.RulesTry
import PyProof.StationsW
import PyProof.RulesAs
import KE.KIsAll
import PyProof.ExcBaseAll.ValueError
import KE.IntTextLaws
import Open.Tops
import PySem.Challenge.RW_stuckwire_k61_desk_gives
set_option maxHeartbeats 0
open PySem.W (Frag fnOf keepIn codeIn nsIn mg_of)
set_option Elab.async false
set_option linter.all false
noncomputable section
set_option maxRecDepth 100000
set_option bootstrap.genMatcherCode false
set_option compiler.extract_closed false
set_option genSizeOfSpec false
abbrev Ra:=@PySem.wpAny_bind
abbrev Rb:=@PySem.wpAny_pure
abbrev Rc:=@PySem.wpAny_mono
abbrev Re:=@PySem.wpAny_newObj_type
abbrev Rf:=@PySem.wpAny_holding
abbrev Rg:=@PySem.wpAny_call_entry
abbrev Rh:=@PySem.wpAny_Call_Name_kw
abbrev Ri:=@decide_eq_false
abbrev Rj:=@decide_eq_true
abbrev Rk:=@decide_eq_true_eq
abbrev Rl:=@if_true
abbrev Rm:=@if_false
namespace PySem.W.Fast
end PySem.W.Fast
abbrev Aa:=Option
abbrev Ab:=List
abbrev Ac:=PySem.Shared
abbrev Ad:=PySem.Value
abbrev Ae:=Array
abbrev Af:=PySem.Addr
abbrev Ag:=PySem.Expr
abbrev Ah:=PySem.Heap
abbrev Ai:=PySem.Around
abbrev Aj:=PySem.Program
abbrev Ak:=PySem.World
abbrev Qaa:=@List.mem_cons_of_mem
abbrev Qab:=@List.length_map
abbrev Qac:=@List.getElem?_eq_some_iff
abbrev Qad:=@List.mem_cons
abbrev Qae:=@List.mem_append_right
abbrev Qaf:=@List.length_cons
abbrev Qag:=@PySem.Heap.get?_push_of_some
abbrev Qah:=@List.mem_append
abbrev Qai:=@List.mem_cons_self
abbrev Qaj:=@List.getElem?_eq_getElem
abbrev Qak:=@List.getElem?_set_ne
abbrev Qal:=@PySem.Heap.lt_size
abbrev Qam:=@Bool.and_eq_true
abbrev Qan:=@List.mem_append_left
abbrev Qao:=@List.size_toArray
abbrev Qap:=@Nat.le_refl
abbrev Qaq:=@Int.emod_lt_of_pos
abbrev Qar:=@List.nodup_append
abbrev Qas:=@List.getElem?_eq_none
abbrev Qat:=@List.map_cons
abbrev Qau:=@Nat.lt_of_lt_of_le
abbrev Qav:=@List.length_append
abbrev Qaw:=@List.getElem?_set_self
abbrev Qax:=@PySem.Heap.get?_push_size
abbrev Qay:=@List.mem_singleton
abbrev Qaz:=@List.nodup_nil
abbrev QaA:=@List.nodup_cons
abbrev QaB:=@List.getElem?_append_left
abbrev QaC:=@Int.emod_nonneg
abbrev QaD:=@List.getElem?_map
abbrev QaE:=@Nat.le_trans
abbrev QaF:=@List.lookup_cons
abbrev QaG:=@Option.some.inj
abbrev QaH:=@Option.map_some
abbrev QaI:=@List.map_append
abbrev QaJ:=@Int.toNat_natCast
abbrev QaK:=@Nat.ne_of_lt
abbrev QaL:=@List.mem_map
abbrev QaM:=@List.set_eq_of_length_le
abbrev QaN:=@List.length_singleton
abbrev QaO:=@List.not_mem_nil
abbrev QaP:=@List.append_nil
abbrev QaQ:=@List.getElem?_append_right
abbrev QaR:=@List.length_take
abbrev QaS:=@List.all_eq_true
abbrev QaT:=@List.mem_of_getElem?
abbrev QaU:=@Bool.false_eq_true
abbrev QaV:=@List.map_nil
abbrev QaW:=@List.take_length
abbrev QaX:=@Nat.two_pow_pos
abbrev QaY:=@Nat.zero_le
abbrev QaZ:=@List.length_range
abbrev Qa0:=@Nat.pow_le_pow_right
abbrev Qa1:=@List.getElem?_of_mem
abbrev Qa2:=@List.length_nil
abbrev Qa3:=@List.cons_append
abbrev Qa4:=@Int.one_mul
abbrev Qa5:=@Option.isSome_iff_exists
abbrev Qa6:=@List.forIn_cons
abbrev Qa7:=@List.find?_cons
abbrev Qa8:=@List.map_map
abbrev Qa9:=@Nat.lt_irrefl
abbrev Qba:=@List.getElem?_replicate
abbrev Qbb:=@List.getElem?_cons_zero
abbrev Qbc:=@Option.bind_some
abbrev Qbd:=@List.eq_nil_of_length_eq_zero
abbrev Qbe:=@List.take_succ
abbrev Qbf:=@List.take_of_length_le
abbrev Qbg:=@Bool.false_ne_true
abbrev Qbh:=@Nat.zero_add
abbrev Qbi:=@Nat.pow_succ
abbrev Qbj:=@PySem.Heap.size_push
abbrev Qbk:=@Option.some.injEq
abbrev Qbl:=@List.drop_eq_getElem_cons
abbrev Qbm:=@Option.join_some
abbrev Qbn:=@List.take_succ_cons
abbrev Qbo:=@PySem.W.of_hideAll
abbrev Qbp:=@PySem.F.plainAttrs_list
abbrev Qbq:=@List.nil_append
namespace L2
open PySem PySem.Spec PyProof.Rows
abbrev sEa(e:Ag)(es:Ab Ag)(n:Env):Prop:=starEach (e::es) n=(false,eval e n)::starEach es n
abbrev bTa(p:Pos)(es:Ab Ag)(n:Env):Prop:=(backTo p (starEach es n)).any (·.1)=false
abbrev nDb(x:Str):Prop:=(x==("__debug__" : Str))=false
abbrev Key:=Sum Int Str
def C5:Key->Ad->Bool
 | .inl k,v=>Value.isInt k v
 | .inr x,v=>Value.isStrOf x v
def Zb5(w:Ak):Key->Int
 | .inl k=>hashInt k
 | .inr x=>hashStr w x
def eB:∀{k:Key}{v:Ad},C5 k v=true->(∃i t,k=Sum.inl i/\v=Value.int i t)\/(∃x t,k=Sum.inr x/\v=Value.str x t)
 | .inl i,v,h=>by
  obtain⟨t,e⟩:=Value.isInt_shape (k:=i) (v:=v) h;exact .inl ⟨i,t,rfl,e⟩
 | .inr x,v,h=>by
  obtain⟨t,e⟩:=Value.isStrOf_shape (x:=x) (v:=v) h;exact .inr ⟨x,t,rfl,e⟩
def Z2Z(i:Int)(t:Tok):C5 (.inl i) (.int i t)=true:=by simp[C5,Value.isInt]
def Z2Y(x:Str)(t:Tok):C5 (.inr x) (.str x t)=true:=by simp[C5,Value.isStrOf]
def Z9o(a b:Int):decide ((Sum.inl a:Key)=Sum.inl b)=(a==b):=by
 by_cases e:a=b
 .subst e;simp
 .have h:¬(Sum.inl a:Key)=Sum.inl b:=λq=>e (Sum.inl.inj q);rw[Ri h];exact(beq_eq_false_iff_ne.mpr e).symm
def Z9l(a b:Str):decide ((Sum.inr a:Key)=Sum.inr b)=decide (a=b):=by
 by_cases e:a=b
 .subst e;simp
 .have h:¬(Sum.inr a:Key)=Sum.inr b:=λq=>e (Sum.inr.inj q);rw[Ri h,Ri e]
def Z9n(a:Int)(b:Str):decide ((Sum.inl a:Key)=Sum.inr b)=false:=Ri (λq=>nomatch q)
def Z9m(a:Str)(b:Int):decide ((Sum.inr a:Key)=Sum.inl b)=false:=Ri (λq=>nomatch q)
def gI(prog:Aj)(w:Ak):PySem.KeyKind prog w Key where
 is:=C5
 hash:=Zb5 w
 inj:=λv a b ha hb=>by
  rcases eB ha with⟨i,t,rfl,rfl⟩|⟨x,t,rfl,rfl⟩
  .rcases eB hb with⟨j,u,rfl,e⟩|⟨y,u,rfl,e⟩
   .injection e with e1 _;rw[e1]
   .exact nomatch e
  .rcases eB hb with⟨j,u,rfl,e⟩|⟨y,u,rfl,e⟩
   .exact nomatch e
   .injection e with e1 _;rw[e1]
 byValue := λk v h => by
  rcases eB h with⟨i,t,rfl,rfl⟩|⟨x,t,rfl,rfl⟩<;>rfl
 pyHash:=λhv h=>by
  rcases eB hv with⟨i,t,rfl,rfl⟩|⟨x,t,rfl,rfl⟩
  .exact wpAny_pyHash_int h
  .exact wpAny_pyHash_str h
 eqBool:=λhu hv h=>by
  rcases eB hu with⟨i,t,rfl,rfl⟩|⟨x,t,rfl,rfl⟩
  .rcases eB hv with⟨j,u,rfl,rfl⟩|⟨y,u,rfl,rfl⟩
   .rw[Z9o]at h;exact wpAny_eqBool_int h
   .rw[Z9n]at h;exact SeqAt.EqAt.int_str i t y u _ _ _ _ h
  .rcases eB hv with⟨j,u,rfl,rfl⟩|⟨y,u,rfl,rfl⟩
   .rw[Z9m]at h;exact SeqAt.EqAt.str_int x t j u _ _ _ _ h
   .rw[Z9l]at h;exact wpAny_eqBool_str h
 «strs»:=λk x t v h=>by
  rcases eB h with⟨i,u,rfl,e⟩|⟨y,u,rfl,e⟩
  .exact nomatch e
  .injection e with e1 _;subst e1;cases v<;>rfl
def V2(prog:Aj)(w:Ak)(i:Int)(t:Tok):(gI prog w).is (.inl i) (.int i t)=true:=Z2Z i t
def V1(prog:Aj)(w:Ak)(x:Str)(t:Tok):(gI prog w).is (.inr x) (.str x t)=true:=Z2Y x t
inductive V where
 |non|bl (b:Bool)|int (i:Int)|str (x:Str)|byt (b:Array UInt8)|flt (b:UInt64)|ref (a:Addr)|ty (n:String)
 deriving DecidableEq
def RelV:V->Ad->Prop
 | .non,u=>u=Value.none
 | .bl b,u=>u=Value.bool b
 | .int i,u=>∃t,u=Value.int i t
 | .str x,u=>∃t,u=Value.str x t
 | .byt b,u=>∃t,u=Value.bytes b t
 | .flt b,u=>∃t,u=Value.float b t
 | .ref a,u=>u=Value.ref a
 | .ty n,u=>u=Value.type n
abbrev Vals:Ab V->Ab Ad->Prop:=Paired RelV
theorem Vals.length(r:Vals xs us):xs.length=us.length:=Paired.length r
theorem Vals.get:∀{xs:Ab V}{us:Ab Ad}{i:Nat}{x:V},Vals xs us->xs[i]?=some x->∃u,us[i]?=some u/\RelV x u
 |_,_,_,_,.nil,e=>by simp at e
 |_,_,0,_,.cons r _,e=>by simp at e;subst e;exact⟨_,rfl,r⟩
 |_,_,i+1,x,.cons _ t,e=>by
  obtain⟨u,h1,h2⟩:=Vals.get (i:=i) (x:=x) t (by simpa using e);exact⟨u,by simpa using h1,h2⟩
theorem Vals.set(r:RelV x u):∀{xs:Ab V}{us:Ab Ad}(i:Nat),Vals xs us->Vals (xs.set i x) (us.set i u)
 |_,_,_,.nil=>.nil
 |_,_,0,.cons _ t=>.cons r t
 |_,_,i+1,.cons q t=>.cons q (Vals.set r i t)
theorem Vals.append:∀{xs ys:Ab V}{us ws:Ab Ad},Vals xs us->Vals ys ws->Vals (xs++ys) (us++ws)
 |_,_,_,_,.nil,s=>s
 |_,_,_,_,.cons r t,s=>.cons r (Vals.append t s)
theorem Vals.take:∀{xs:Ab V}{us:Ab Ad}(n:Nat),Vals xs us->Vals (xs.take n) (us.take n)
 |_,_,0,_=>.nil
 |_,_,_+1,.nil=>.nil
 |_,_,n+1,.cons r t=>.cons r (Vals.take n t)
theorem Vals.drop:∀{xs:Ab V}{us:Ab Ad}(n:Nat),Vals xs us->Vals (xs.drop n) (us.drop n)
 |_,_,0,r=>r
 |_,_,_+1,.nil=>.nil
 |_,_,n+1,.cons _ t=>Vals.drop n t
def RelO:Aa V->Aa Ad->Prop
 |some v,some u=>RelV v u
 |none,none=>True
 |_,_=>False
def KV{κ:Type}:Ab (κ×V)->Ab (κ×Ad)->Prop:=Paired λ(p:κ×V) (q:κ×Ad)=>p.1=q.1/\RelV p.2 q.2
def kV:Key->V
 | .inl i=>.int i
 | .inr x=>.str x
inductive HO where
 /-- a list -/
 |lst (xs:List V)
 /-- a tuple (never changes) -/
 |tup (xs:List V)
 /-- a dict whose keys are ints and texts;one whose keys are tuples of ints and texts (the empty one is both) -/
 |dK (kvs:List (Key×V))|dT (kvs:List (List Key×V))
 |dE (es:List (List Key×Addr×V)) (ep:Nat)
 |cod (q:Str)
 /-- a set of ints: its members,its size -/
 |set (S:Int->Bool) (n:Nat)
 /-- an instance of the class at C,its dict at dx,its attributes -/
 |ins (C dx:Addr) (fs:List (Str×V))
 /-- the dict of the instance at x -/
 |own (x:Addr)
 /-- the dict of an exception -/
 |xd (fs:List (Str×V))
 /-- a bound method,f of x -/
 |met (f x:Addr)
 /-- a range object lo,lo+1,.. below hi -/
 |rng (lo hi:Int)
 /-- a thing that is known to the object (the script;a dict while a loop walks it): read,never written while it is so -/
 |frz (o:Obj) (u:HO)
 /-- a code object's table -/
 |tbl (ps:Array (Pos×Str))
 /-- any other thing,by what is true of its one object (a def of one's own: SetO a S n:=HO.ext λh=>..) -/
 |ext (φ:Heap->Prop)
abbrev Hp:=Af->Aa HO
def upd(H:Hp)(a:Af)(o:HO):Hp:=λb=>if b=a then some o else H b
def bJ:upd H a o a=some o:=by unfold upd;rw[if_pos rfl]
def bB(h:b≠a):upd H a o b=H b:=by unfold upd;rw[if_neg h]
def cG{H:Hp}{a b:Af}{o:HO}(h:H a=some o)(h':H b=none):a≠b:=by
 intro e;subst e;rw[h]at h';cases h'
section
variable (P:Aj)(w:Ak)
def ObjOk(H:Hp)(h:Ah)(a:Af):HO->Prop
 | .lst xs=>xs.length<=sizeLine/\∃(its:Ab Ad) (n:Nat),Vals xs its/\h.get? a=some { cls:=.type "list",data:=.seq its.toArray n }
 | .tup xs=>xs.length<=sizeLine/\∃its:Ab Ad,Vals xs its/\IsTup h a its.toArray
 | .dK kvs=>kvs.length<=sizeLine/\(a==sysModules)=false/\∃vs,KV kvs vs/\h.DictOf (gI P w) a vs
 | .dT kvs=>kvs.length <= sizeLine /\ (a == sysModules)=false /\ ∃ xs:Ab (Ab Key × Af × Ad),
   Paired (λ(p:Ab Key×V) (q:Ab Key×Af×Ad)=>p.1=q.1/\H q.2.1=some (.tup (p.1.map kV))/\RelV p.2 q.2.2) kvs xs /\
   ∃o es ep,h.get? a=some o/\o.ExactDict/\o.data=.dict es ep/\es.toList=xs.map (entryOfKey (tupleKind (gI P w)))/\(xs.map (·.1)).Nodup
 | .dE es ep=>es.length <= sizeLine /\ (a == sysModules)=false /\ ∃ xs:Ab (Ab Key × Af × Ad),Paired (fun (p:Ab Key × Af × V) (q:Ab Key × Af × Ad)=>p.1=q.1 /\ p.2.1=q.2.1 /\ RelV p.2.2 q.2.2) es xs /\
   ∃o es',h.get? a=some o/\o.ExactDict/\o.data=.dict es' ep/\es'.toList=xs.map (entryOfKey (tupleKind (gI P w)))/\(xs.map (·.1)).Nodup
 | .cod q=>h.CodeRec (.ref a) q
 | .set S n=>h.SetOf (intKind P w) a S n
 | .ins C dx fs=>H dx=some (.own a) /\ fs.length <= 1000 /\ dx ≠ a /\ h.get? a=some (PySem.W.instObj C dx) /\
   ∃mA,h.Ns1 dx mA/\(∀f,RelO (fs.lookup f) (mA f))/\PySem.Within mA (fs.map (·.1))
 | .own _=>∃o,h.get? a=some o
 | .xd fs=>∃mA,h.Ns1 a mA/\∀f,RelO (fs.lookup f) (mA f)
 | .rng lo hi=>∃t u v,h.get? a=some { cls:=.type "range",data:=.fields #[.int lo t,.int hi u,.int 1 v] }
 | .frz o u=>h.get? a=some o/\ObjOk H h a u
 | .tbl ps=>∃pv:Ae Ad,h.get? a=some { cls:=.none,data:=.fields pv }/\TriplesOk pv.toList/\∀p,ps[0]?=some p->codeAmong p.1 pv.toList=none\/∃c oc,codeAmong p.1 pv.toList=some (.ref c)/\H c=some (.frz oc (.cod p.2))
 | .met f x=>h.get? a=some (PySem.W.methodObj (.ref f) (.ref x))
 | .ext φ=>φ h/\(∃o,h.get? a=some o)/\∀h1 h2:Ah,φ h1->(∀o,h1.get? a=some o->h2.get? a=some o)->φ h2
def HOk(H:Hp)(h:Ah):Prop:=∀a o,H a=some o->ObjOk P w H h a o
end
section
variable {P:Aj}{w:Ak}{H H':Hp}{h h':Ah}{a:Af}{o:HO}
theorem ObjOk.lt(x:ObjOk P w H h a o):a<h.objs.size:=by
 cases o with
 |lst xs=>obtain⟨_,_,_,_,e⟩:=x;exact Qal e
 |tup xs=>obtain⟨_,_,_,p⟩:=x;exact p.lt
 |dK kvs=>obtain⟨_,_,_,_,o,_,_,e,_⟩:=x;exact Qal e
 |dT kvs=>obtain⟨_,_,_,_,o,_,_,e,_⟩:=x;exact Qal e
 |dE es ep=>obtain⟨_,_,_,_,o,_,e,_⟩:=x;exact Qal e
 |cod q=>obtain⟨c,o,_,_,z,e,_⟩:=x;cases z;exact Qal e
 |set S n=>obtain⟨o,_,_,_,e,_⟩:=x;exact Qal e
 |ins C dx fs=>obtain⟨_,_,_,e,_⟩:=x;exact Qal e
 |own y=>obtain⟨_,e⟩:=x;exact Qal e
 |xd fs=>obtain⟨_,⟨_,_,_,e,_⟩,_⟩:=x;exact Qal e
 |rng lo hi=>obtain⟨_,_,_,e⟩:=x;exact Qal e
 |frz ob u=>obtain⟨e,_⟩:=x;exact Qal e
 |tbl ps=>obtain⟨_,e,_⟩:=x;exact Qal e
 |met f y=>exact Qal (show h.get? a=some _ from x)
 |ext φ=>obtain⟨_,⟨_,e⟩,_⟩:=x;exact Qal e
theorem Paired.mapP:∀{h:Ab α}{l₂:Ab β},Paired F h l₂->(∀a b,F a b->G a b)->Paired G h l₂
 |_,_,.nil,_=>.nil
 |_,_,.cons r t,f=>.cons (f _ _ r) (Paired.mapP t f)
def ObjOk.stay(x:ObjOk P w H h a o)(k:∀b u,(b=a\/H b=some (.own a))->h.get? b=some u->h'.get? b=some u)
  (F:∀b,H b=some (.own a)->H' b=some (.own a)) (E:∀b xs,H b=some (.tup xs)->H' b=some (.tup xs))
  (A:∀b o q,H b=some (.frz o (.cod q))->H' b=some (.frz o (.cod q)):=by intro b o q r;first|exact r|(rw[bB (cG r (by assumption))];exact r)|(rw[bB (λz=>by subst z;simp_all[Mut])];exact r)|(rw[bB (λz=>by rw[z]at r;simp_all)];exact r)):ObjOk P w H' h' a o:=by
 induction o with
 |lst xs=>obtain⟨z,its,n,r,e⟩:=x;exact⟨z,its,n,r,k _ _ (.inl rfl) e⟩
 |tup xs=>obtain⟨z,its,r,i,e,c⟩:=x;exact⟨z,its,r,i,k _ _ (.inl rfl) e,c⟩
 |dK kvs=>obtain⟨z,y,vs,r,i,es,ep,e,c⟩:=x;exact⟨z,y,vs,r,i,es,ep,k _ _ (.inl rfl) e,c⟩
 |dT kvs =>
  obtain⟨z,y,xs,r,i,es,ep,e,c⟩:=x;exact⟨z,y,xs,Paired.mapP r λp q z=>⟨z.1,E _ _ z.2.1,z.2.2⟩,i,es,ep,k _ _ (.inl rfl) e,c⟩
 |dE es ep=>obtain⟨z,y,xs,r,i,es,e,c⟩:=x;exact⟨z,y,xs,r,i,es,k _ _ (.inl rfl) e,c⟩
 |cod q=>obtain⟨c,o,vs,t,z,e,r⟩:=x;cases z;exact⟨_,o,vs,t,rfl,k _ _ (.inl rfl) e,r⟩
 |set S n=>obtain⟨i,es,ep,t,e,c⟩:=x;exact⟨i,es,ep,t,k _ _ (.inl rfl) e,c⟩
 |ins C dx fs =>
  obtain⟨d,z,G,e,mA,⟨l,es,ep,j,c⟩,r⟩:=x;exact⟨F _ d,z,G,k _ _ (.inl rfl) e,mA,⟨l,es,ep,k _ _ (.inr d) j,c⟩,r⟩
 |own y=>obtain⟨i,e⟩:=x;exact⟨i,k _ _ (.inl rfl) e⟩
 |xd fs=>obtain⟨mA,⟨l,es,ep,e,c⟩,r⟩:=x;exact⟨mA,⟨l,es,ep,k _ _ (.inl rfl) e,c⟩,r⟩
 |rng lo hi=>obtain⟨t,u,v,e⟩:=x;exact⟨t,u,v,k _ _ (.inl rfl) e⟩
 |frz i u ih=>obtain⟨e,q⟩:=x;exact⟨k _ _ (.inl rfl) e,ih q⟩
 |tbl ps=>obtain⟨pv,e,t,c⟩:=x;exact⟨pv,k _ _ (.inl rfl) e,t,λp hp=>(c p hp).imp id λ⟨c,B,I,j⟩=>⟨c,B,I,A _ _ _ j⟩⟩
 |met f y =>
  have e:h.get? a=some (PySem.W.methodObj (.ref f) (.ref y)):=x;show h'.get? a=some (PySem.W.methodObj (.ref f) (.ref y));exact k a _ (.inl rfl) e
 |ext φ=>obtain⟨p,⟨o,e⟩,st⟩:=x;exact⟨st _ _ p λo q=>k _ _ (.inl rfl) q,⟨o,k _ _ (.inl rfl) e⟩,st⟩
theorem HOk.lt(x:HOk P w H h)(e:H a=some o):a<h.objs.size:=(x a o e).lt
def HOk.fresh(x:HOk P w H h)(e:h.objs.size<=a):H a=none:=by
 cases q:H a with
 |none=>rfl
 |some u=>exact absurd (Qau (x.lt q) e) (Qa9 _)
def HOk.kept(x:HOk P w H h)(k:∀b u,h.get? b=some u->h'.get? b=some u):HOk P w H h':=λa o e =>
 (x a o e).stay (λb u _ q=>k b u q) (λ_ q=>q) λ_ _ q=>q
def HOk.laid(x:HOk P w H h)(k:∀b u,h.get? b=some u->h'.get? b=some u)(l:h.objs.size<=a)(f:ObjOk P w (upd H a o) h' a o):HOk P w (upd H a o) h':=λb u e=>by
 have i:=x.fresh l;by_cases j:b=a
 .subst j;rw[bJ]at e;cases e;exact f
 .rw[bB j]at e;exact(x b u e).stay (λc v _ q=>k c v q) (λc q=>by rw[bB (cG q i)];exact q) λc xs q=>by rw[bB (cG q i)];exact q
end
def Rd(H:Hp)(a:Af)(u:HO):Prop:=H a=some u\/∃o,H a=some (.frz o u)
def Rd.ok(r:Rd H a u)(x:HOk P w H h):ObjOk P w H h a u:=by
 rcases r with r|⟨o,r⟩
 .exact x a u r
 .obtain⟨_,q⟩:=x a _ r;exact q
def Mut:Aa HO->Prop
 |some (.lst _)=>True
 |some (.dK _)=>True
 |some (.dT _)=>True
 |some (.dE _ _)=>True
 |some (.set _ _)=>True
 |some (.ins _ _ _)=>True
 |some (.ext _)=>True
 |_=>False
section
variable {P:Aj}{w:Ak}{H:Hp}{h h':Ah}{x e:Af}{o':HO}
def HOk.write(ok:HOk P w H h)(j:Mut (H x))(he:e=x\/H e=some (.own x))(k:∀b u,b≠e->h.get? b=some u->h'.get? b=some u)(n:∃u,h'.get? e=some u)
  (o:ObjOk P w (upd H x o') h' x o'):HOk P w (upd H x o') h':=λb u q=>by
 have f:∀c y,H c=some (.own y)->c≠x:=λc y r z=>by subst z;rw[r]at j;exact j
 have l:∀c xs,H c=some (.tup xs)->c≠x:=λc xs r z=>by subst z;rw[r]at j;exact j
 by_cases i:b=x
 .subst i;rw[bJ]at q;cases q;exact o
 .rw[bB i]at q;by_cases a:b=e
  .have p:H b=some (.own x):=by
    rcases he with z|z
    .exact absurd (a.trans z) i
    .rw[a];exact z
   rw[q]at p;cases p;obtain⟨v,t⟩:=n;exact⟨v,by rw[a];exact t⟩
  .refine(ok b u q).stay (λc v hc r=>k c v ?_ r) (λc r=>by rw[bB (f c b r)];exact r) λc xs r=>by rw[bB (l c xs r)];exact r
   rcases hc with rfl|hc
   .exact a
   .rintro rfl;rcases he with z|z
    .exact f c b hc z
    .rw[hc]at z;cases z;exact i rfl
end
structure Un(fs ex:List Addr)(H H':Hp)(h h':Heap):Prop where
 keep:∀b o,h.get? b=some o->H b=none->b∉fs->b∉ex->h'.get? b=some o
 slot:∀b o,h.get? b=some o->H b=none->b∈fs->b∉ex->∃sl,h'.get? b=some { o with slots:=sl }
 free:∀b o,h.get? b=some o->H b=none->b∉ex->H' b=none
 there:∀b o,h.get? b=some o->b∉ex->∃o',h'.get? b=some o'
 tups:∀b xs,H b=some (.tup xs)->H' b=some (.tup xs)
 frzs:∀b o u,H b=some (.frz o u)->H' b=some (.frz o u)
 tbls:∀b ps,H b=some (.tbl ps)->∃more,H' b=some (.tbl (ps++more))
section
variable {fs ex:Ab Af}{H H1:Hp}{h h1 h':Ah}{a x e:Af}{o:HO}
def Un.any(u:Un fs ex H H1 h h1){b:Af}{a:Obj}(q:h.get? b=some a)(n:H b=none)(f:b∉ex):∃sl,h1.get? b=some { a with slots:=sl }:=by
 by_cases i:b∈fs
 .exact u.slot b a q n i f
 .exact⟨a.slots,u.keep b a q n i f⟩
def Un.kept(k:∀b u,h.get? b=some u->h'.get? b=some u):Un fs ex H H h h' :=
 ⟨λb ob q _ _ _=>k b ob q,λb ob q _ _ _=>⟨ob.slots,k b ob q⟩,λ_ _ _ n _=>n,λb ob q _=>⟨ob,k b ob q⟩,λ_ _ q=>q,λ_ _ _ q=>q,λ_ ps q=>⟨#[],by rw[q];simp⟩⟩
def Un.refl:Un fs ex H H h h:=Un.kept λ_ _ q=>q
def Un.laid(k:∀b u,h.get? b=some u->h'.get? b=some u)(i:h.objs.size<=a)(f:H a=none):Un fs ex H (upd H a o) h h' where
 keep:=λb u q _ _ _=>k b u q
 slot:=λb u q _ _ _=>⟨u.slots,k b u q⟩
 free:=λb u q n _=>by rw[bB (QaK (Qau (Qal q) i))];exact n
 there:=λb u q _=>⟨u,k b u q⟩
 tups:=λb xs q=>by rw[bB (cG q f)];exact q
 frzs:=λb u xs q=>by rw[bB (cG q f)];exact q
 tbls:=λb ps q=>⟨#[],by rw[bB (cG q f),q];simp⟩
def Un.write(a:Mut (H x))(he:e=x\/H e=some (.own x))(k:∀b u,b≠e->h.get? b=some u->h'.get? b=some u)(l:∃u,h'.get? e=some u):Un fs ex H (upd H x o) h h':=by
 have p:∀b,H b=none->b≠x:=λb n z=>by subst z;rw[n]at a;exact a
 have j:∀b,H b=none->b≠e:=λb n z=>by
  subst z;rcases he with r|r
  .exact p b n r
  .rw[n]at r;cases r
 have i:∀b u,H b=some u->¬Mut (some u)->b≠x:=λb u q nm z=>by subst z;rw[q]at a;exact nm a
 refine⟨λb u q n _ _=>k b u (j b n) q,λb u q n _ _=>⟨u.slots,k b u (j b n) q⟩,λb u q n _=>by rw[bB (p b n)];exact n,λb u q _=>?_,
  λb xs q=>by rw[bB (i b _ q λz=>z)];exact q,λb u xs q=>by rw[bB (i b _ q λz=>z)];exact q,λb ps q=>⟨#[],by rw[bB (i b _ q λz=>z),q];simp⟩⟩
 by_cases f:b=e
 .subst f;exact l
 .exact⟨u,k b u f q⟩
end
def trk(h:Ah)(H:Hp):Ab Af:=(List.range h.objs.size).filter λa=>(H a).isSome
def N3(h:Ah)(H:Hp):Ah:=PySem.W.hideAll h (trk h H)
def Z33(h:Ah)(H:Hp):(N3 h H).objs.size=h.objs.size:=PySem.W.hideAll_size _ _
def Z5f(e:h.get? b=some o)(n:H b=none):(N3 h H).get? b=some o :=
 PySem.W.hideAll_get _ e λa=>by
  have q:(H b).isSome=true:=(List.mem_filter.mp a).2;rw[n]at q;simp at q
def Z7f(e:(N3 h H).get? b=some o):h.get? b=some o/\H b=none:=by
 have a:h.get? b=some o:=Qbo (trk h H) e;refine⟨a,?_⟩;cases q:H b with
 |none=>rfl
 |some x =>
  have f:b∈trk h H:=List.mem_filter.mpr ⟨List.mem_range.mpr (Qal a),by simp[q]⟩;have z:(N3 h H).get? b=none:=PySem.W.hideAll_none (trk h H) f;rw[z]at e;cases e
structure Mod(K:Frag)(mg:Str->Option Value)(base:Heap):Prop where
 kin:K.In base
 glob:base.Ns mainGlobals mg
 blt:∃mb,base.Ns builtinsNs mb/\∀x:Str,x ≠ "__name__" -> mb x=bootBuiltins x
 nolimit:base.NoLimit
structure Cx where
 prog:Aj
 w:Ak
 K:Frag
 mg:Str->Aa Ad
 base:Ah
 A:Ai
 N:Ab Str
 s₀:Ac
 H₀:Hp
 env:Env
 outer:Ab Env
 stack:Ab Env
 ex:Ab Af
 fn:Str->Bool
 calm:Bool
 pn:Ab (Af×Obj)
 xe:Ad->Ac->Prop
def frs(l:Ab Env):Ab Af:=l.filterMap (·.frame)
abbrev Cx.fs(X:Cx):Ab Af:=frs X.outer
def Vis(sc:Scope)(x:Str):Prop:=sc.names.lookup x=some .local\/sc.names.lookup x=some .cell\/sc.names.lookup x=some .free
def Loc(sc:Scope)(x:Str):Prop:=sc.names.lookup x=some .local\/sc.names.lookup x=some .cell
def Zbf(env:Env)(h:Ah)(m:Str->Aa Ad)(x:Str)(u:Ad):Prop :=
 (env.kindOf x=some .local/\m x=some u)\/((env.kindOf x=some .cell\/env.kindOf x=some .free)/\∃c,env.cells.lookup x=some c/\h.IsCell c (some u))
structure Cx.Ok(X:Cx):Prop where
 mod:Mod X.K X.mg X.base
 kind:X.env.scope.kind=.function
 glob:X.env.globals=mainGlobals
 blt:X.env.builtins=builtinsNs
 above:X.s₀.heap.objs.size<=X.env.locals
 inj:∀x y c,X.env.cells.lookup x=some c->X.env.cells.lookup y=some c->x=y
 has:∀x,(X.env.kindOf x=some .cell\/X.env.kindOf x=some .free)->∃c,X.env.cells.lookup x=some c
 cab:∀x c,X.fn x=true->X.env.cells.lookup x=some c->X.s₀.heap.objs.size<=c
 hd:X.calm=true->X.A.handled=none
 frames:X.A.frames=some X.stack
 stk:X.stack=X.outer\/(X.stack=X.env::X.outer/\X.env.frame=some X.env.locals)
 exf:∀b∈X.ex,b≠X.env.locals/\∀x c,X.env.cells.lookup x=some c->c≠b
 bs:∀b o,X.base.get? b=some o->X.s₀.heap.get? b=some o/\X.H₀ b=none
 bsz:X.base.objs.size<=X.s₀.heap.objs.size
 noex:∀b o,X.base.get? b=some o->b∉X.ex
 exfs:∀b∈X.ex,b∉X.fs
 funs:X.s₀.heap.FunFrames X.base X.outer
 frf:∀b∈X.fs,X.H₀ b=none
structure Inv(X:Cx)(pins:List (Addr×Obj))(σ:List (Option V))(H:Hp)(s:Shared):Prop where
 ok:X.Ok
 os:s.os=X.s₀.os
 bare:AllBare s.gens
 base:Un X.fs X.ex X.H₀ H X.s₀.heap s.heap
 loc:∃m,s.heap.Ns X.env.locals m/\∀(i:Nat) (x:Str) (v:V),X.N[i]?=some x->σ[i]?=some (some v)->Vis X.env.scope x->∃u,RelV v u/\Zbf X.env s.heap m x u
 cell:∀x c,X.env.cells.lookup x=some c->∃v,s.heap.IsCell c v
 free:H X.env.locals=none
 freeC:∀x c,X.env.cells.lookup x=some c->H c=none
 pin:∀p∈X.pn++pins,s.heap.get? p.1=some p.2/\H p.1=none/\p.1≠X.env.locals/\p.1∉X.fs/\∀v,p.2.data ≠ .cell v
 hok:HOk X.prog X.w H s.heap
 len:σ.length=X.N.length
section
variable {X:Cx}{pins:Ab (Af×Obj)}{σ:Ab (Aa V)}{H H':Hp}{s:Ac}{h':Ah}
def Cx.Ok.nofr(ok:X.Ok){b:Af}{o:Obj}(e:X.base.get? b=some o):b∉X.fs:=λa=>by
 have:=(ok.funs.mem a).1;rw[e]at this;cases this
theorem Inv.bs(I:Inv X pins σ H s):∀b o,X.base.get? b=some o->s.heap.get? b=some o/\H b=none:=λb o e =>
 ⟨I.base.keep b o (I.ok.bs b o e).1 (I.ok.bs b o e).2 (I.ok.nofr e) (I.ok.noex b o e),I.base.free b o (I.ok.bs b o e).1 (I.ok.bs b o e).2 (I.ok.noex b o e)⟩
def Inv.bk(I:Inv X pins σ H s):∀b o,X.base.get? b=some o->s.heap.get? b=some o:=λb o e=>(I.bs b o e).1
theorem Inv.mod(I:Inv X pins σ H s):Mod X.K X.mg X.base:=I.ok.mod
def Inv.kIn(I:Inv X pins σ H s):X.K.In s.heap:=I.ok.mod.kin.keeps I.bk
theorem Inv.lt(I:Inv X pins σ H s):X.env.locals<s.heap.objs.size:=let ⟨_,hn,_⟩:=I.loc;hn.lt
def Inv.sz(I:Inv X pins σ H s):X.s₀.heap.objs.size<=s.heap.objs.size:=QaE I.ok.above (Nat.le_of_lt I.lt)
def Inv.nofs(I:Inv X pins σ H s){a:Af}(h:s.heap.objs.size<=a):a∉X.fs:=λf=>by
 obtain⟨_,o,b,_⟩:=I.ok.funs.mem f;exact absurd (Qau (Qal b) (QaE I.sz h)) (Qa9 _)
def Inv.cne(I:Inv X pins σ H s):∀x c,X.env.cells.lookup x=some c->c≠X.env.locals:=λx c e z=>by
 obtain⟨v,o,b,hd⟩:=I.cell x c e;obtain⟨m,⟨o',es,ep,a,f,_⟩,_⟩:=I.loc;rw[z,a]at b;cases b;rw[f]at hd;cases hd
theorem Inv.funs(I:Inv X pins σ H s):s.heap.FunFrames X.base X.outer:=by
 have all:∀(l:Ab Env),(∀b∈frs l,b∈X.fs)->X.s₀.heap.FunFrames X.base l->s.heap.FunFrames X.base l:=by
  intro l
  induction l with
  |nil=>intro _ _;trivial
  |cons env r ih =>
   intro hs n;obtain⟨p,⟨L,o,a,i,j,hd⟩,h⟩:=n;have f:L∈X.fs:=hs L (by unfold frs;rw[List.filterMap_cons,a];exact Qai);obtain⟨q,e⟩:=I.base.slot L o j (I.ok.frf L f) f λz=>I.ok.exfs L z f;exact⟨p,⟨L,_,a,i,e,hd⟩,ih (λb hb=>hs b (by unfold frs;rw[List.filterMap_cons,a];exact Qaa _ hb)) h⟩
 exact all X.outer (λ_ hb=>hb) I.ok.funs
theorem Inv.stack(I:Inv X pins σ H s):s.heap.FunFrames X.base X.stack:=by
 rcases I.ok.stk with e|⟨e,hf⟩
 .rw[e];exact I.funs
 .rw[e];obtain⟨m,a,_⟩:=I.loc;refine .cons (by rw[I.ok.kind];decide) hf a ?_ I.funs;exact Heap.get?_none_of_le (QaE I.ok.bsz I.ok.above)
def Inv.stkSub(I:Inv X pins σ H s):∀b∈frs X.stack,b∈X.env.locals::X.fs:=λb hb=>by
 rcases I.ok.stk with e|⟨e,hf⟩
 .rw[e]at hb;exact Qaa _ hb
 .rw[e]at hb;unfold frs at hb;rw[List.filterMap_cons,hf]at hb;exact hb
def Inv.stkFree(I:Inv X pins σ H s):∀b∈frs X.stack,H b=none:=λb hb=>by
 rcases Qad.mp (I.stkSub b hb)with e|hb
 .rw[e];exact I.free
 .obtain⟨_,o,a,_⟩:=I.ok.funs.mem hb;exact I.base.free b o a (I.ok.frf b hb) λz=>I.ok.exfs b z hb
def Inv.step{g':Ae GenState}{t':Nat}{d':Drawn}{ch:Ab Af}(I:Inv X pins σ H s)
  (f:∀b∈ch,(b∈X.ex\/X.s₀.heap.objs.size<=b)/\b≠X.env.locals/\(∀x c,X.env.cells.lookup x=some c->c≠b)/\∀p∈X.pn++pins,p.1≠b)
  (keep:∀b o,b≠X.env.locals->b∉X.fs->b∉ch->s.heap.get? b=some o->H b=none->h'.get? b=some o)
  (A:∀b o,b≠X.env.locals->b∈X.fs->b∉ch->s.heap.get? b=some o->H b=none->∃J,h'.get? b=some { o with slots:=J }) (free:∀b o,b∉ch->s.heap.get? b=some o->H b=none->H' b=none)
  (C:∀b o,b∉ch->s.heap.get? b=some o->∃o',h'.get? b=some o')
  (K:∀b xs,H b=some (.tup xs)->H' b=some (.tup xs)) (G:∀b o u,H b=some (.frz o u)->H' b=some (.frz o u)) (F:∀b ps,H b=some (.tbl ps)->∃more,H' b=some (.tbl (ps++more)))
  (ns:∀m,s.heap.Ns X.env.locals m->h'.Ns X.env.locals m) (M:HOk X.prog X.w H' h') (Q:AllBare g') :
  Inv X pins σ H' { s with heap:=h',gens:=g',drawn:=d',toks:=t' }:=by
 have E:∀b o,X.s₀.heap.get? b=some o->b≠X.env.locals:=λb o e=>QaK (Qau (Qal e) I.ok.above);have j:∀b o,X.s₀.heap.get? b=some o->b∉X.ex->b∉ch:=λb o e hx hb=>by
  rcases (f b hb).1 with z|z
  .exact hx z
  .exact absurd (Qau (Qal e) z) (Qa9 _)
 have t:∀x c,X.env.cells.lookup x=some c->∀v,s.heap.IsCell c v->h'.IsCell c v:=λx c e v ⟨o,y,hd⟩=>by
  have h:c∉ch:=λz=>(f c z).2.2.1 x c e rfl;by_cases hc:c∈X.fs
  .obtain⟨J,q⟩:=A c o (I.cne x c e) hc h y (I.freeC x c e);exact⟨_,q,hd⟩
  .exact⟨o,keep c o (I.cne x c e) hc h y (I.freeC x c e),hd⟩
 refine⟨I.ok,I.os,Q,⟨λb o e n hb hx=>?_,λb o e n hb hx=>?_,λb o e n hx=>?_,λb o e hx=>?_,λb xs e=>K b xs (I.base.tups b xs e),λb o xs e=>G b o xs (I.base.frzs b o xs e),λb ps e=>?_⟩,?_,λx c e=>?_,?_,λx c e=>?_,λp hp=>?_,M,I.len⟩
 .exact keep b o (E b o e) hb (j b o e hx) (I.base.keep b o e n hb hx) (I.base.free b o e n hx)
 .obtain⟨J,a⟩:=I.base.slot b o e n hb hx;obtain⟨N,B⟩:=A b _ (E b o e) hb (j b o e hx) a (I.base.free b o e n hx);exact⟨N,B⟩
 .obtain⟨o',a⟩:=I.base.there b o e hx;exact free b o' (j b o e hx) a (I.base.free b o e n hx)
 .obtain⟨o',a⟩:=I.base.there b o e hx;exact C b o' (j b o e hx) a
 .obtain⟨m1,a⟩:=I.base.tbls b ps e;obtain⟨m2,B⟩:=F b _ a;exact⟨m1++m2,by rw[B,Array.append_assoc]⟩
 .obtain⟨m,P,R⟩:=I.loc;refine⟨m,ns m P,λi x v a B e3=>?_⟩;obtain⟨u,r,l⟩:=R i x v a B e3;refine⟨u,r,?_⟩;rcases l with l|⟨k,c,e,z⟩
  .exact .inl l
  .exact .inr ⟨k,c,e,t x c e _ z⟩
 .obtain⟨v,z⟩:=I.cell x c e;exact⟨v,t x c e v z⟩
 .obtain⟨m,⟨o,_,_,y,_⟩,_⟩:=I.loc;exact free _ o (λz=>(f _ z).2.1 rfl) y I.free
 .obtain⟨v,o,y,hd⟩:=I.cell x c e;exact free c o (λz=>(f c z).2.2.1 x c e rfl) y (I.freeC x c e)
 .obtain⟨e,n,L,O,d⟩:=I.pin p hp;have h:p.1∉ch:=λz=>(f p.1 z).2.2.2 p hp rfl;exact⟨keep p.1 p.2 L O h e n,free p.1 p.2 h e n,L,O,d⟩
def Inv.un{t':Nat}(I:Inv X pins σ H s)(u:Un X.fs [] H H' s.heap h')(h:HOk X.prog X.w H' h'):Inv X pins σ H' { s with heap:=h',toks:=t' }:=by
 obtain⟨m,⟨o,es,ep,f,r⟩,_⟩:=id I.loc;obtain⟨q,p⟩:=u.any f I.free (by simp);exact I.step (g':=s.gens) (d':=s.drawn) (ch:=[]) (λ_ z=>nomatch z) (λb o _ hb _ e n=>u.keep b o e n hb (by simp)) (λb o _ hb _ e n=>u.slot b o e n hb (by simp)) (λb o _ e n=>u.free b o e n (by simp)) (λb o _ e=>u.there b o e (by simp)) u.tups u.frzs u.tbls (λm' hm=>by
  obtain⟨o',i,j,a,l⟩:=hm;rw[f]at a;cases a;exact⟨_,i,j,p,l⟩) h I.bare
def Inv.call{g':Ae GenState}{t':Nat}{d':Drawn}{ch:Ab Af}(I:Inv X pins σ H s)(u:Un (frs X.stack) ch H H' s.heap h')(i:HOk X.prog X.w H' h')(t:AllBare g')
  (a:∀b∈ch,(b∈X.ex\/X.s₀.heap.objs.size<=b)/\b≠X.env.locals/\(∀x c,X.env.cells.lookup x=some c->c≠b)/\∀p∈X.pn++pins,p.1≠b) :
  Inv X pins σ H' { s with heap:=h',gens:=g',drawn:=d',toks:=t' }:=by
 obtain⟨m,⟨o,es,ep,l,r⟩,_⟩:=id I.loc;obtain⟨y,h⟩:=u.any l I.free λz=>(a _ z).2.1 rfl;exact I.step (ch:=ch) a (λb o h hb hc e n=>u.keep b o e n (λz=>(Qad.mp (I.stkSub b z)).elim h hb) hc) (λb o _ _ hc e n=>u.any e n hc) (λb o hc e n=>u.free b o e n hc) (λb o hc e=>u.there b o e hc) u.tups u.frzs u.tbls (λm' hm=>by
  obtain⟨o',q,j,f,v⟩:=hm;rw[l]at f;cases f;exact⟨_,q,j,h,v⟩) i t
def Inv.turned{t':Nat}{it:Af}(I:Inv X pins σ H s)(k:∀b o,b≠it->s.heap.get? b=some o->h'.get? b=some o)(i:H it=none)(f:it≠X.env.locals)
  (h1:it∈X.ex\/X.s₀.heap.objs.size<=it) (h2:∀x c,X.env.cells.lookup x=some c->c≠it) (h3:∀p∈X.pn++pins,p.1≠it):Inv X pins σ H { s with heap:=h',toks:=t' }:=by
 have a:∀b u,H b=some u->b≠it:=λb u e z=>by rw[z,i]at e;cases e
 refine I.step (g':=s.gens) (d':=s.drawn) (ch:=[it]) (λb hb=>?_) (λb o _ _ hc e _=>k b o (λz=>hc (by simp[z])) e) (λb o _ _ hc e _=>⟨o.slots,k b o (λz=>hc (by simp[z])) e⟩) (λ_ _ _ _ n=>n)
  (λb o hc e=>⟨o,k b o (λz=>hc (by simp[z])) e⟩) (λ_ _ e=>e) (λ_ _ _ e=>e) (λb ps e=>⟨#[],by rw[e];simp⟩) (λm hm=>?_) (λb u e=>?_) I.bare
 .have e:b=it:=by simpa using hb
  subst e;exact⟨h1,f,h2,h3⟩
 .obtain⟨o,es,ep,h,r⟩:=hm;exact⟨o,es,ep,k _ o (Ne.symm f) h,r⟩
 .refine(I.hok b u e).stay (λc v hc q=>k c v ?_ q) (λ_ q=>q) λ_ _ q=>q;rcases hc with z|z
  .rw[z];exact a b u e
  .exact a c _ z
def Inv.tok(I:Inv X pins σ H s)(t:Nat):Inv X pins σ H { s with toks:=t }:=I.un (h':=s.heap) (t':=t) Un.refl I.hok
theorem Inv.kept(I:Inv X pins σ H s)(k:∀b u,s.heap.get? b=some u->h'.get? b=some u):Inv X pins σ H { s with heap:=h',toks:=t' }:=I.un (Un.kept k) (I.hok.kept k)
theorem Inv.laid(I:Inv X pins σ H s)(k:∀b u,s.heap.get? b=some u->h'.get? b=some u)(f:s.heap.objs.size<=a)(h:ObjOk X.prog X.w (upd H a o) h' a o) :
  Inv X pins σ (upd H a o) { s with heap:=h',toks:=t' }:=I.un (Un.laid k f (I.hok.fresh f)) (I.hok.laid k f h)
theorem Inv.write(I:Inv X pins σ H s)(f:Mut (H x))(he:e=x\/H e=some (.own x))(k:∀b u,b≠e->s.heap.get? b=some u->h'.get? b=some u)(a:∃u,h'.get? e=some u)
  (h:ObjOk X.prog X.w (upd H x o) h' x o):Inv X pins σ (upd H x o) { s with heap:=h',toks:=t' }:=I.un (Un.write f he k a) (I.hok.write f he k a h)
def Inv.weak(I:Inv X pins σ H s)(a:σ'.length=σ.length)(w:∀(i:Nat) v,σ'[i]?=some (some v)->σ[i]?=some (some v)):Inv X pins σ' H s :=
 ⟨I.ok,I.os,I.bare,I.base,let ⟨m,hn,hl'⟩:=I.loc;⟨m,hn,λi x v e1 e2 e3=>hl' i x v e1 (w i v e2) e3⟩,I.cell,I.free,I.freeC,I.pin,I.hok,a.trans I.len⟩
def Inv.pins_of(I:Inv X pins σ H s)(h:∀p∈pins',s.heap.get? p.1=some p.2/\H p.1=none/\p.1≠X.env.locals/\p.1∉X.fs/\∀v,p.2.data ≠ .cell v):Inv X pins' σ H s :=
 ⟨I.ok,I.os,I.bare,I.base,I.loc,I.cell,I.free,I.freeC,λp hp=>(Qah.mp hp).elim (λz=>I.pin p (Qan _ z)) (h p),I.hok,I.len⟩
def xQ{N:Ab Str}(h:N.Nodup){i j:Nat}{x:Str}(a:N[i]?=some x)(b:N[j]?=some x):i=j:=by
 obtain⟨h1,f⟩:=Qac.mp a;obtain⟨h2,l⟩:=Qac.mp b;exact(List.getElem_inj h).mp (f.trans l.symm)
def A6(I:Inv X pins σ H s)(hN:X.N.Nodup)(hi:X.N[i]?=some x)(l:Loc X.env.scope x)(r:RelV v u)
  (h:∀s',Inv X pins (σ.set i (some v)) H s'->(∃a,Heap.SameBut a s.heap s'.heap/\(a=X.env.locals\/X.env.cells.lookup x=some a))->Q () s') (hf:X.fn x=true\/X.env.scope.names.lookup x=some .local:=by first|exact .inl rfl|exact .inr rfl|assumption):wpAny M A (storeName X.env x u) Q E s:=by
 obtain⟨m,O,Z⟩:=id I.loc;have W:(X.env.scope.kind == .class||(X.env.scope.kind == .module&&X.env.locals != X.env.globals))=false:=by rw[I.ok.kind];rfl
 have G:i<σ.length:=by rw[I.len];exact(Qac.mp hi).1
 have cne:=I.cne;have t:∀{a:Af}{h':Ah},(∃o,s.heap.get? a=some o/\H a=none)->Heap.SameBut a s.heap h'->HOk X.prog X.w H h':=λ{a h'} ha hs b ob e=>by
  obtain⟨_,_,C⟩:=ha;refine(I.hok b ob e).stay (λc w' hc q=>(hs.2 c ?_).trans q) (λ_ q=>q) λ_ _ q=>q;rintro rfl;rcases hc with rfl|hc
  .rw[C]at e;cases e
  .rw[C]at hc;cases hc
 rcases l with hk|hk
 .refine wpAny_storeName_local hk O (λh' hn' hs=>?_) W;obtain⟨oL,_,_,hoL,_⟩:=id O;refine h _ ⟨I.ok,I.os,I.bare,⟨λb o e n hb l=>?_,λb o e n hb l=>?_,I.base.free,λb o e l=>?_,I.base.tups,I.base.frzs,I.base.tbls⟩,⟨_,hn',λj y v' f e2 e3=>?_⟩,λy c e=>?_,I.free,I.freeC,λp hp=>?_,t ⟨oL,hoL,I.free⟩ hs,by simpa using I.len⟩ ⟨_,hs,.inl rfl⟩
  .exact(hs.2 b (QaK (Qau (Qal e) I.ok.above))).trans (I.base.keep b o e n hb l)
  .obtain⟨R,f⟩:=I.base.slot b o e n hb l;exact⟨R,(hs.2 b (QaK (Qau (Qal e) I.ok.above))).trans f⟩
  .obtain⟨o',f⟩:=I.base.there b o e l;exact⟨o',(hs.2 b (QaK (Qau (Qal e) I.ok.above))).trans f⟩
  .by_cases B:j=i
   .subst B;rw[hi]at f;cases f;rw[Qaw G]at e2;cases e2;exact⟨u,r,.inl ⟨hk,by simp⟩⟩
   .rw[Qak (Ne.symm B)]at e2;obtain⟨U,P,q⟩:=Z j y v' f e2 e3;refine⟨U,P,?_⟩;rcases q with⟨k,e⟩|⟨k,c,e,z⟩
    .refine .inl ⟨k,?_⟩;have:y≠x:=λe=>B (xQ hN f (e ▸ hi));simp[this,e]
    .exact .inr ⟨k,c,e,z.sameBut hs (cne y c e)⟩
  .obtain⟨w',z⟩:=I.cell y c e;exact⟨w',z.sameBut hs (cne y c e)⟩
  .obtain⟨e,n,J,T,d⟩:=I.pin p hp;exact⟨(hs.2 p.1 J).trans e,n,J,T,d⟩
 .have F:X.fn x=true:=by
   rcases hf with z|z
   .exact z
   .rw[z]at hk;cases hk
  obtain⟨c,hc⟩:=I.ok.has x (.inl hk);obtain⟨w',z⟩:=I.cell x c hc;refine wpAny_storeName_cell I.ok.kind hk hc z (λh' hc' hs=>?_);obtain⟨Y,L,S⟩:=id z;refine h { s with heap:=h' } ⟨I.ok,I.os,I.bare,⟨λb o e n hb l=>?_,λb o e n hb l=>?_,I.base.free,λb o e l=>?_,I.base.tups,I.base.frzs,I.base.tbls⟩,⟨m,O.sameBut hs (Ne.symm (cne x c hc)),λj y v' f e2 e3=>?_⟩,λy c' e=>?_,I.free,I.freeC,λp hp=>?_,t ⟨Y,L,I.freeC x c hc⟩ hs,by simpa using I.len⟩ ⟨c,hs,.inr hc⟩
  .exact(hs.2 b (QaK (Qau (Qal e) (I.ok.cab x c F hc)))).trans (I.base.keep b o e n hb l)
  .obtain⟨R,f⟩:=I.base.slot b o e n hb l;exact⟨R,(hs.2 b (QaK (Qau (Qal e) (I.ok.cab x c F hc)))).trans f⟩
  .obtain⟨o',f⟩:=I.base.there b o e l;exact⟨o',(hs.2 b (QaK (Qau (Qal e) (I.ok.cab x c F hc)))).trans f⟩
  .by_cases B:j=i
   .subst B;rw[hi]at f;cases f;rw[Qaw G]at e2;cases e2;exact⟨u,r,.inr ⟨.inl hk,c,hc,hc'⟩⟩
   .rw[Qak (Ne.symm B)]at e2;obtain⟨U,P,q⟩:=Z j y v' f e2 e3;refine⟨U,P,?_⟩;rcases q with q|⟨k,c',e,z'⟩
    .exact .inl q
    .refine .inr ⟨k,c',e,z'.sameBut hs ?_⟩;rintro rfl;exact B (xQ hN f (I.ok.inj _ _ _ e hc ▸ hi))
  .by_cases K:c'=c
   .subst K;exact⟨_,hc'⟩
   .obtain⟨w2,z2⟩:=I.cell y c' e;exact⟨w2,z2.sameBut hs K⟩
  .obtain⟨e,n,J,T,d⟩:=I.pin p hp;refine⟨(hs.2 p.1 ?_).trans e,n,J,T,d⟩;intro q;rw[q,L]at e;have q':Y=p.2:=QaG e;exact d w' (by rw[<- q'];exact S)
def lU(I:Inv X pins σ H s)(a:X.N.Nodup)(hi:X.N[i]?=some x)(f:Loc X.env.scope x)(r:RelV v u)
  (h:∀s',Inv X pins (σ.set i (some v)) H s'->Q () s') (b:X.fn x=true\/X.env.scope.names.lookup x=some .local:=by first|exact .inl rfl|exact .inr rfl|assumption):wpAny M A (storeName X.env x u) Q E s :=
 A6 I a hi f r (λs' I' _=>h s' I') b
def Inv.call'(I:Inv X pins σ H s)(i:s'.os=s.os)(u:Un (frs X.stack) ch H H' s.heap s'.heap)(f:HOk X.prog X.w H' s'.heap)(h:AllBare s'.gens)
  (a:∀b∈ch,(b∈X.ex\/X.s₀.heap.objs.size<=b)/\b≠X.env.locals/\(∀x c,X.env.cells.lookup x=some c->c≠b)/\∀p∈X.pn++pins,p.1≠b):Inv X pins σ H' s':=by
 obtain⟨h',g',d',t',o'⟩:=s';have e:o'=s.os:=i;subst e;exact I.call (g':=g') (t':=t') (d':=d') u f h a
end
abbrev XK:=Ad->Aa Af->Hp->Prop
abbrev St:=Ab (Aa V)
abbrev VK:=V->Hp->Prop
abbrev TE:=St->Hp->VK->Prop
abbrev TT:=St->Hp->(Bool->Hp->Prop)->Prop
abbrev TA:=St->Hp->(Ab V->Hp->Prop)->Prop
structure uL where
 nx:St->Hp->Prop
 rt:VK
 bk:St->Hp->Prop:=λ_ _=>False
 ct:St->Hp->Prop:=λ_ _=>False
abbrev TS:=uL->St->Hp->Prop
def EP(X:Cx)(pins:Ab (Af×Obj))(σ:St)(Q:VK)(u:Ad)(s':Ac):Prop:=∃v H',Inv X pins σ H' s'/\RelV v u/\Q v H'
def TP(X:Cx)(pins:Ab (Af×Obj))(σ:St)(Q:Bool->Hp->Prop)(b:Bool)(s':Ac):Prop:=∃H',Inv X pins σ H' s'/\Q b H'
def AP(X:Cx)(pins:Ab (Af×Obj))(σ:St)(Q:Ab V->Hp->Prop)(us:Ab Ad)(s':Ac):Prop:=∃vs H',Inv X pins σ H' s'/\Vals vs us/\Q vs H'
def SP(X:Cx)(pins:Ab (Af×Obj))(D:uL)(f:Flow)(s':Ac):Prop :=
 match f with
 | .next=>∃σ' H',Inv X pins σ' H' s'/\D.nx σ' H'
 | .brk=>∃σ' H',Inv X pins σ' H' s'/\D.bk σ' H'
 | .cont=>∃σ' H',Inv X pins σ' H' s'/\D.ct σ' H'
 | .ret u=>∃v σ' H',Inv X pins σ' H' s'/\RelV v u/\D.rt v H'
def PE(X:Cx)(e:Ag)(t:TE):Prop :=
 ∀(pins:Ab (Af×Obj)) (s:Ac) (σ:St) (H:Hp) (Q:VK),Inv X pins σ H s->t σ H Q->wpAny (model X.prog X.w) X.A (eval e X.env) (EP X pins σ Q) X.xe s
def PT(X:Cx)(e:Ag)(t:TT):Prop :=
 ∀(pins:Ab (Af×Obj)) (s:Ac) (σ:St) (H:Hp) (Q:Bool->Hp->Prop),Inv X pins σ H s->t σ H Q->wpAny (model X.prog X.w) X.A (isTrue e X.env (eval e X.env)) (TP X pins σ Q) X.xe s
def PW(X:Cx)(e:Ag)(t:TT):Prop :=
 ∀(whole:Sem Ad) (pins:Ab (Af×Obj)) (s:Ac) (σ:St) (H:Hp) (Q:Bool->Hp->Prop),Inv X pins σ H s->t σ H Q->wpAny (model X.prog X.w) X.A (isTrue e X.env whole) (TP X pins σ Q) X.xe s
def PW.pt(h:PW X e t):PT X e t:=h _
def PA(X:Cx)(es:Ab Ag)(t:TA):Prop :=
 ∀(pos:Pos) (pins:Ab (Af×Obj)) (s:Ac) (σ:St) (H:Hp) (Q:Ab V->Hp->Prop),Inv X pins σ H s->t σ H Q->wpAny (model X.prog X.w) X.A (spliced (backTo pos (starEach es X.env))) (AP X pins σ Q) X.xe s
def PS(X:Cx)(st:Stmt)(t:TS):Prop :=
 ∀(pins:Ab (Af×Obj)) (s:Ac) (σ:St) (H:Hp) (D:uL),Inv X pins σ H s->t D σ H->wpAny (model X.prog X.w) X.A (exec st X.env) (SP X pins D) X.xe s
def PSs(X:Cx)(st:Ab Stmt)(t:TS):Prop :=
 ∀(pins:Ab (Af×Obj)) (s:Ac) (σ:St) (H:Hp) (D:uL),Inv X pins σ H s->t D σ H->wpAny (model X.prog X.w) X.A (execs st X.env) (SP X pins D) X.xe s
def thn(h:wpAny M A t Q E s)(b:∀a s,Q a s->Q' a s):wpAny M A t Q' E s:=Rc h b λ_ _ x=>x
section
variable {X:Cx}
def bin(i:PE X a ta)(j:PE X b tb){pins:Ab (Af×Obj)}{s:Ac}{σ:St}{H:Hp}{R:V->V->Hp->Prop}(I:Inv X pins σ H s)(h:ta σ H λx H1=>tb σ H1 λy H2=>R x y H2)
  {α:Type}{Q:α->Ac->Prop}{f:Ad->Ad->Sem α}
  (l:∀v u s2 x y H2,Inv X pins σ H2 s2->RelV x v->RelV y u->R x y H2->wpAny (model X.prog X.w) X.A (f v u) Q X.xe s2) :
  wpAny (model X.prog X.w) X.A (eval a X.env) (λv s₁=>wpAny (model X.prog X.w) X.A (eval b X.env) (λu s₂=>wpAny (model X.prog X.w) X.A (f v u) Q X.xe s₂) X.xe s₁) X.xe s:=by
 refine thn (i pins s σ H _ I h) λv s1 ⟨x,H1,I1,r1,q1⟩=>?_;refine thn (j pins s1 σ H1 _ I1 q1) λu s2 ⟨y,H2,I2,r2,q2⟩=>?_;exact l v u s2 x y H2 I2 r1 r2 q2
def zE(i:Nat):TE:=λσ H Q=>∃v,σ[i]?=some (some v)/\Q v H
def tC(v:V):TE:=λ_ H Q=>Q v H
def kH(q:X.N[i]?=some x)(o:Vis X.env.scope x)(hd:nDb x:=by decide)(j:(x==("__classdict__" : Str))=false:=by decide):PE X (.Name x pos) (zE i):=by
 intro pins s σ H Q I h;obtain⟨v,e,h⟩:=h;obtain⟨m,n,p⟩:=I.loc;obtain⟨u,r,l⟩:=p i x v q e o;have f:EP X pins σ Q u s:=⟨v,H,I,r,h⟩;rcases l with⟨a,t⟩|⟨a,c,hc,b⟩
 .exact wpAny_Name (wpAny_loadName_local I.ok.kind a n t f) hd
 .rcases a with a|a
  .exact wpAny_Name (wpAny_loadName_cell I.ok.kind a hc b f) hd
  .exact wpAny_Name (wpAny_loadName_free I.ok.kind a hc b f j) hd
def pe_int:PE X (.Constant (.int i) j pos) (tC (.int i)):=λ_ _ _ H _ I h=>wpAny_Constant_int ⟨.int i,H,I.tok _,⟨_,rfl⟩,h⟩
def Zaf:PE X (.Constant (.bool b) j pos) (tC (.bl b)):=λ_ _ _ H _ I h=>Constant_bool ⟨.bl b,H,I,rfl,h⟩
def Z9a:PE X (.Constant .none j pos) (tC .non):=λ_ _ _ H _ I h=>Constant_none ⟨.non,H,I,rfl,h⟩
def Z4H:PE X (.Constant (.str x) j pos) (tC (.str x)):=λ_ _ _ H _ I h=>Calls.Constant_str ⟨.str x,H,I.tok _,⟨_,rfl⟩,h⟩
def Gl(X:Cx)(x:Str):Prop:=X.env.kindOf x=some .globalImplicit
def wD(I:Inv X pins σ H s)(a:Gl X x)(b:X.mg x=some u)(h:Q u s)
  (hd:nDb x:=by decide):wpAny (model X.prog X.w) X.A (eval (.Name x pos) X.env) Q E s :=
 Calls.Name_function_global I.ok.kind a (Calls.loadGlobal_global (by rw[I.ok.glob];exact I.mod.glob.keeps I.bk) b h) hd
def tX(I:Inv X pins σ H s)(a:Gl X x)(f:X.mg x=none)(i:bootBuiltins x=some u)(h:Q u s)
  (b:x ≠ "__name__":=by decide) (hd:nDb x:=by decide):wpAny (model X.prog X.w) X.A (eval (.Name x pos) X.env) Q E s:=by
 obtain⟨j,h1,h2⟩:=I.mod.blt;exact Calls.Name_function_global I.ok.kind a (Calls.loadGlobal_builtin (by rw[I.ok.glob];exact I.mod.glob.keeps I.bk) f (by rw[I.ok.blt];exact h1.keeps I.bk) ((h2 x b).trans i) h) hd
def oW(a:Gl X x)(b:X.mg x=some u)(r:RelV v u)(hd:nDb x:=by decide):PE X (.Name x pos) (tC v) :=
 λ_ _ _ H _ I h=>wD I a b ⟨v,H,I,r,h⟩ hd
def Z7a(a:Gl X x)(b:X.mg x=none)(i:bootBuiltins x=some u)(r:RelV v u)(f:x ≠ "__name__":=by decide)(hd:nDb x:=by decide):PE X (.Name x pos) (tC v) :=
 λ_ _ _ H _ I h=>tX I a b i ⟨v,H,I,r,h⟩ f hd
variable {a b:Ag}{ta tb:TE}{pos:Pos}
def tB(t:TE):TT:=λσ H Q=>t σ H λx H1=>∃c,x=.bl c/\Q c H1
def Z4y(h:PE X e t)(he:∀whole,isTrue e X.env whole=(do let v <- whole;standAt e.pos;holding [v] (truthy v)):=by intro _;rfl):PT X e (tB t):=by
 intro pins s σ H Q I hw;refine isTrue_plain (thn (h pins s σ H _ I hw) λv s1 ⟨x,H1,I1,r1,q1⟩=>?_) (he _);obtain⟨d,rfl,q⟩:=q1;cases r1;exact wpAny_truthy_bool ⟨H1,I1,q⟩
variable {tA tB':TT}{rest:Ab Ag}
def ZaV(t u:TT):TT:=λσ H Q=>t σ H λc H1=>if c=true then u σ H1 Q else Q false H1
def tOr(t u:TT):TT:=λσ H Q=>t σ H λc H1=>if c=true then Q true H1 else u σ H1 Q
def ZaP(t:TT):TT:=λσ H Q=>t σ H λc H1=>Q (!c) H1
def Z6Z(b:PT X a tA):PW X (.BoolOp .And [a] pos) tA:=by
 intro f pins s σ H Q I h;refine isTrue_and (thn (b pins s σ H Q I h) λc s1 e=>?_);cases c with
 |true=>exact isTrue_and_nil e
 |false=>exact e
def Z93(b:PT X a tA):PW X (.BoolOp .Or [a] pos) tA:=by
 intro f pins s σ H Q I h;refine isTrue_or (thn (b pins s σ H Q I h) λc s1 e=>?_);cases c with
 |false=>exact isTrue_or_nil e
 |true=>exact e
def Z94(i:PT X a tA)(j:PW X (.BoolOp .And (b::rest) pos) tB'):PW X (.BoolOp .And (a::b::rest) pos) (ZaV tA tB'):=by
 intro f pins s σ H Q I h;refine isTrue_and (thn (i pins s σ H _ I h) λc s1 ⟨H1,I1,q1⟩=>?_);cases c with
 |true=>exact j f pins s1 σ H1 Q I1 q1
 |false=>exact⟨H1,I1,q1⟩
def Zab(i:PT X a tA)(j:PW X (.BoolOp .Or (b::rest) pos) tB'):PW X (.BoolOp .Or (a::b::rest) pos) (tOr tA tB'):=by
 intro f pins s σ H Q I h;refine isTrue_or (thn (i pins s σ H _ I h) λc s1 ⟨H1,I1,q1⟩=>?_);cases c with
 |true=>exact⟨H1,I1,q1⟩
 |false=>exact j f pins s1 σ H1 Q I1 q1
def pt_not(b:PT X a tA):PT X (.UnaryOp .Not a pos) (ZaP tA):=by
 intro pins s σ H Q I h;exact isTrue_not (b pins s σ H (λc H1=>Q (!c) H1) I h)
def Z9T(ta tb:TE):TE:=λσ H Q=>ta σ H λx H1=>∃c,x=.bl c/\if c=true then tb σ H1 Q else Q (.bl false) H1
def ZaO(ta tb:TE):TE:=λσ H Q=>ta σ H λx H1=>∃c,x=.bl c/\if c=true then Q (.bl true) H1 else tb σ H1 Q
def Z99(h:PE X a t):PE X (.BoolOp op [a] pos) t:=λpins s σ H Q I hw=>BoolOp_one (h pins s σ H Q I hw)
def pe_and(i:PE X a ta)(j:PE X (.BoolOp .And (b::rest) pos) tb):PE X (.BoolOp .And (a::b::rest) pos) (Z9T ta tb):=by
 intro pins s σ H Q I h;refine BoolOp_and (thn (i pins s σ H _ I h) λv s1 ⟨x,H1,I1,r1,f⟩=>?_);obtain⟨c,rfl,f⟩:=f;cases r1;refine wpAny_truthy_bool ?_;cases c with
 |true=>exact j pins s1 σ H1 Q I1 f
 |false=>exact⟨.bl false,H1,I1,rfl,f⟩
def pe_or(i:PE X a ta)(j:PE X (.BoolOp .Or (b::rest) pos) tb):PE X (.BoolOp .Or (a::b::rest) pos) (ZaO ta tb):=by
 intro pins s σ H Q I h;refine BoolOp_or (thn (i pins s σ H _ I h) λv s1 ⟨x,H1,I1,r1,f⟩=>?_);obtain⟨c,rfl,f⟩:=f;cases r1;refine wpAny_truthy_bool ?_;cases c with
 |false=>exact j pins s1 σ H1 Q I1 f
 |true=>exact⟨.bl true,H1,I1,rfl,f⟩
def tIf(t:TT)(ta tb:TE):TE:=λσ H Q=>t σ H λc H1=>if c=true then ta σ H1 Q else tb σ H1 Q
def pe_ifExp(hc:PT X c tA)(f:PE X a ta)(i:PE X b tb):PE X (.IfExp c a b pos) (tIf tA ta tb):=by
 intro pins s σ H Q I h;refine wpAny_IfExp (thn (hc pins s σ H _ I h) λd s1 ⟨H1,I1,q1⟩=>?_);cases d with
 |true=>exact f pins s1 σ H1 Q I1 q1
 |false=>exact i pins s1 σ H1 Q I1 q1
end
def SqL(K:Frag)(H:Hp)(a:Af)(xs:Ab V):Prop :=
 Rd H a (.lst xs) \/
  ∃(o:Obj) (its:Ae Ad) (n:Nat),K.lookup a=some o/\o.cls=.type "list" /\ o.dict=none/\o.data=.seq its n/\its.size<=sizeLine/\Vals xs its.toList
def SqT(K:Frag)(H:Hp)(a:Af)(xs:Ab V):Prop :=
 Rd H a (.tup xs) \/
  ∃(o:Obj) (its:Ae Ad) (n:Nat),K.lookup a=some o/\o.cls=.type "tuple" /\ o.data=.seq its n/\its.size<=sizeLine/\Vals xs its.toList
def Zbd:Ad->Aa V
 | .none=>some .non
 | .bool b=>some (.bl b)
 | .int i _=>some (.int i)
 | .str x _=>some (.str x)
 | .bytes b _=>some (.byt b)
 | .float b _=>some (.flt b)
 | .ref a=>some (.ref a)
 | .type n=>some (.ty n)
 |_=>none
def RelV.abs(r:RelV x u):Zbd u=some x:=by
 cases x with
 |non=>cases r;rfl
 |bl _=>cases r;rfl
 |int _=>obtain⟨t,rfl⟩:=r;rfl
 |str _=>obtain⟨t,rfl⟩:=r;rfl
 |byt _=>obtain⟨t,rfl⟩:=r;rfl
 |flt _=>obtain⟨t,rfl⟩:=r;rfl
 |ref _=>cases r;rfl
 |ty _=>cases r;rfl
def RelV.inj(r:RelV x u)(q:RelV y u):x=y:=QaG (r.abs.symm.trans q.abs)
theorem Vals.inj:∀{xs ys:Ab V}{us:Ab Ad},Vals xs us->Vals ys us->xs=ys
 |_,_,_,.nil,.nil=>rfl
 |_,_,_,.cons r t,.cons r' t'=>by rw[r.inj r',Vals.inj t t']
section
variable {X:Cx}{pins:Ab (Af×Obj)}{σ:St}{H:Hp}{s:Ac}{a:Af}{xs ys:Ab V}
def SqL.of{K:Frag}(h:H a=some (.lst xs)):SqL K H a xs:=.inl (.inl h)
def SqT.of{K:Frag}(h:H a=some (.tup xs)):SqT K H a xs:=.inl (.inl h)
def Inv.list(I:Inv X pins σ H s)(h:SqL X.K H a xs):∃its:Ab Ad,Vals xs its/\PlainL s.heap a its.toArray/\xs.length<=sizeLine:=by
 rcases h with h|⟨o,its,n,hk,hc,hd,hs,hz,r⟩
 .obtain⟨z,its,n,r,e⟩:=h.ok I.hok;exact⟨its,r,⟨_,n,e,rfl,rfl,rfl⟩,z⟩
 .refine⟨its.toList,r,⟨o,n,I.kIn a o hk,hc,hd,by simpa using hs⟩,?_⟩;have e:=r.length;simp only[Array.length_toList]at e;omega
def Inv.tuple(I:Inv X pins σ H s)(h:SqT X.K H a xs):∃its:Ab Ad,Vals xs its/\IsTup s.heap a its.toArray/\xs.length<=sizeLine:=by
 rcases h with h|⟨o,its,n,hk,hc,hs,hz,r⟩
 .obtain⟨z,its,r,p⟩:=h.ok I.hok;exact⟨its,r,p,z⟩
 .refine⟨its.toList,r,⟨o,I.kIn a o hk,hc,n,by simpa using hs⟩,?_⟩;have e:=r.length;simp only[Array.length_toList]at e;omega
def Inv.list_inj(I:Inv X pins σ H s)(h:SqL X.K H a xs)(h':SqL X.K H a ys):xs=ys:=by
 obtain⟨its,r,⟨o,n,e,_,_,d⟩,_⟩:=I.list h;obtain⟨its',f,⟨o',i,b,_,_,d'⟩,_⟩:=I.list h';rw[e]at b;cases b;rw[d]at d';injection d' with d1 _;have:its=its':=by simpa using congrArg Array.toList d1
 subst this;exact r.inj f
def Inv.tuple_inj(I:Inv X pins σ H s)(h:SqT X.K H a xs)(h':SqT X.K H a ys):xs=ys:=by
 obtain⟨its,r,⟨o,e,_,n,d⟩,_⟩:=I.tuple h;obtain⟨its',f,⟨o',b,_,i,d'⟩,_⟩:=I.tuple h';rw[e]at b;cases b;rw[d]at d';injection d' with d1 _;have:its=its':=by simpa using congrArg Array.toList d1
 subst this;exact r.inj f
end
abbrev Cx.wish(X:Cx)(E:Ad->Ac->Prop):Cx:={ X with xe:=E }
abbrev Cx.nox(X:Cx):Cx:=X.wish λ_ _=>False
theorem Cx.Ok.wish{X:Cx}(ok:X.Ok)(E:Ad->Ac->Prop):(X.wish E).Ok :=
 ⟨ok.mod,ok.kind,ok.glob,ok.blt,ok.above,ok.inj,ok.has,ok.cab,ok.hd,ok.frames,ok.stk,ok.exf,ok.bs,ok.bsz,ok.noex,ok.exfs,ok.funs,ok.frf⟩
def Cx.Ok.unwish{X:Cx}{E:Ad->Ac->Prop}(ok:(X.wish E).Ok):X.Ok :=
 ⟨ok.mod,ok.kind,ok.glob,ok.blt,ok.above,ok.inj,ok.has,ok.cab,ok.hd,ok.frames,ok.stk,ok.exf,ok.bs,ok.bsz,ok.noex,ok.exfs,ok.funs,ok.frf⟩
section
variable {X:Cx}{pins:Ab (Af×Obj)}{σ:St}{H:Hp}{s:Ac}{E:Ad->Ac->Prop}
theorem Inv.wish(I:Inv X pins σ H s)(E:Ad->Ac->Prop):Inv (X.wish E) pins σ H s:=⟨I.ok.wish E,I.os,I.bare,I.base,I.loc,I.cell,I.free,I.freeC,I.pin,I.hok,I.len⟩
theorem Inv.unwish(I:Inv (X.wish E) pins σ H s):Inv X pins σ H s:=⟨I.ok.unwish,I.os,I.bare,I.base,I.loc,I.cell,I.free,I.freeC,I.pin,I.hok,I.len⟩
theorem SP.unwish(h:SP (X.wish E) pins D f s'):SP X pins D f s':=by
 cases f with
 |next=>obtain⟨σ',H',I,q⟩:=h;exact⟨σ',H',I.unwish,q⟩
 |brk=>obtain⟨σ',H',I,q⟩:=h;exact⟨σ',H',I.unwish,q⟩
 |cont=>obtain⟨σ',H',I,q⟩:=h;exact⟨σ',H',I.unwish,q⟩
 |ret u=>obtain⟨v,σ',H',I,r,q⟩:=h;exact⟨v,σ',H',I.unwish,r,q⟩
theorem PT.nox(h:PT X.nox e t):PT X e t:=λpins s σ H Q I hw =>
 Rc (h pins s σ H Q (I.wish _) hw) (λ_ _ ⟨H',I',q⟩=>⟨H',I'.unwish,q⟩) λ_ _ z=>False.elim z
theorem PSs.nox{st:Ab Stmt}{t:TS}(h:PSs X.nox st t):PSs X st t:=λpins s σ H D I hw =>
 Rc (h pins s σ H D (I.wish _) hw) (λ_ _ q=>q.unwish) λ_ _ z=>False.elim z
end
section
variable {X:Cx}{st:Stmt}{rest:Ab Stmt}{t u:TS}{e:Ag}{te:TE}{pos:Pos}
def Z9O:TS:=λD σ H=>D.nx σ H
def Z8z(t u:TS):TS:=λD σ H=>t { D with nx:=u D } σ H
def vX:PSs X [] Z9O:=λ_ _ σ H _ I h=>wpAny_execs_nil ⟨σ,H,I,h⟩
def kG(h1:PS X st t)(h2:PSs X rest u):PSs X (st::rest) (Z8z t u):=by
 intro pins s σ H D I h;refine wpAny_execs_cons (thn (h1 pins s σ H { D with nx:=u D } I h) λf s1 q=>?_);cases f with
 |next =>
  obtain⟨σ',H',a,q⟩:=q;exact h2 pins s1 σ' H' D a q
 |ret v=>exact q
 |brk=>exact q
 |cont=>exact q
def oV(h1:PS X st t):PSs X [st] t:=by
 intro pins s σ H D I h;refine wpAny_execs_cons (thn (h1 pins s σ H D I h) λf s1 q=>?_);cases f with
 |next=>exact wpAny_execs_nil q
 |ret v=>exact q
 |brk=>exact q
 |cont=>exact q
def Inv.quiet(I:Inv X pins σ H s):interactive X.env=false:=by simp[interactive,I.ok.kind]
def Z9P(te:TE):TS:=λD σ H=>te σ H λ_ H1=>D.nx σ H1
def rJ(he:PE X e te)(hs:swapsWith e none pos.line X.env=pure false:=by rfl):PS X (.Expr e pos) (Z9P te):=by
 intro pins s σ H D I h;exact wpAny_Expr_any (thn (he pins s σ H _ I h) λv s1 ⟨x,H1,I1,r1,q1⟩=>⟨σ,H1,I1,q1⟩) I.quiet hs
def ZaN(te:TE):TS:=λD σ H=>te σ H D.rt
def jH(he:PE X e te):PS X (.Return (some e) pos) (ZaN te):=by
 intro pins s σ H D I h;exact wpAny_Return_some (thn (he pins s σ H _ I h) λv s1 ⟨x,H1,I1,r1,q1⟩=>⟨x,σ,H1,I1,r1,q1⟩)
def Z9M:TS:=λD _ H=>D.rt .non H
def Z72:PS X (.Return none pos) Z9M:=λ_ _ σ H _ I h=>wpAny_Return_none ⟨.non,σ,H,I,rfl,h⟩
def ZaR(c:TT)(t u:TS):TS:=λD σ H=>c σ H λb H1=>if b=true then t D σ H1 else u D σ H1
def Z1G(hc:PT X c tc)(f:PSs X a t)(i:PSs X b u):PS X (.If c a b pos) (ZaR tc t u):=by
 intro pins s σ H D I h;refine wpAny_If (thn (hc pins s σ H _ I h) λd s1 ⟨H1,I1,q1⟩=>?_);cases d with
 |true=>exact f pins s1 σ H1 D I1 q1
 |false=>exact i pins s1 σ H1 D I1 q1
def Z8A:TS:=λ_ _ _=>False
def Z4A:PS X st Z8A:=λ_ _ _ _ _ _ h=>h.elim
end
abbrev TG:=V->St->Hp->(St->Hp->Prop)->Prop
abbrev TGs:=Ab V->St->Hp->(St->Hp->Prop)->Prop
def PG(X:Cx)(target:Ag)(t:TG):Prop :=
 ∀(pins:Ab (Af×Obj)) (s:Ac) (σ:St) (H:Hp) (v:V) (u:Ad) (Q:St->Hp->Prop),Inv X pins σ H s->RelV v u->t v σ H Q ->
  wpAny (model X.prog X.w) X.A (assign target X.env u) (λ_ s'=>∃σ' H',Inv X pins σ' H' s'/\Q σ' H') X.xe s
def PGs(X:Cx)(ts:Ab Ag)(t:TGs):Prop :=
 ∀(pins:Ab (Af×Obj)) (s:Ac) (σ:St) (H:Hp) (vs:Ab V) (us:Ab Ad) (Q:St->Hp->Prop),Inv X pins σ H s->Vals vs us->t vs σ H Q ->
  wpAny (model X.prog X.w) X.A (assignInOrder ((assignEach ts X.env).map (·.2)) us) (λ_ s'=>∃σ' H',Inv X pins σ' H' s'/\Q σ' H') X.xe s
abbrev ZaE:=V->V->V->Hp->(Hp->Prop)->Prop
def ZaF(X:Cx)(t:ZaE):Prop :=
 ∀(pins:Ab (Af×Obj)) (s:Ac) (σ:St) (H:Hp) (o i v:V) (ov iv u:Ad) (Q:Hp->Prop),Inv X pins σ H s->RelV o ov->RelV i iv->RelV v u->t o i v H Q ->
  wpAny (model X.prog X.w) X.A (setItem ov iv u) (λ_ s'=>∃H',Inv X pins σ H' s'/\Q H') X.xe s
section
variable {X:Cx}{pos:Pos}
def D5(i:Nat):TG:=λv σ H Q=>Q (σ.set i (some v)) H
def gH(b:X.N.Nodup)(hi:X.N[i]?=some x)(a:Loc X.env.scope x)(f:X.fn x=true\/X.env.scope.names.lookup x=some .local:=by first|exact .inl rfl|exact .inr rfl|assumption):PG X (.Name x pos) (D5 i):=by
 intro pins s σ H v u Q I r h;exact wpAny_assign_Name (lU I b hi a r (λs' I'=>⟨_,H,I',h⟩) f)
def Zav:TGs:=λvs σ H Q=>vs=[]/\Q σ H
def Z8n(t:TG)(u:TGs):TGs:=λvs σ H Q=>∃v r,vs=v::r/\t v σ H λσ' H'=>u r σ' H' Q
def L8:PGs X [] Zav:=by
 intro pins s σ H vs us Q I r h;obtain⟨e,h⟩:=h;subst e;cases r;exact assignInOrder_nil ⟨σ,H,I,h⟩
def iZ(h1:PG X e t)(h2:PGs X es u)
  (hs:(assignEach (e::es) X.env).map (·.2)=assign e X.env::(assignEach es X.env).map (·.2):=by rfl):PGs X (e::es) (Z8n t u):=by
 intro pins s σ H vs us Q I r h;obtain⟨v,b,a,h⟩:=h;subst a;cases r with
 |cons r rr =>
  rw[hs];refine assignInOrder_cons (thn (h1 pins s σ H _ _ _ I r h) λ_ s1 ⟨σ1,H1,I1,q1⟩=>?_);exact h2 pins s1 σ1 H1 _ _ Q I1 rr q1
def Zb8(K:Frag)(n:Nat)(t:TGs):TG:=λv σ H Q=>∃a xs,v=.ref a/\SqT K H a xs/\xs.length=n/\t xs σ H Q
def Z97(hc:X.calm=true)(h:PGs X es t)
  (j:(assignEach es X.env).length=n:=by rfl) (f:(assignEach es X.env).findIdx? (·.1)=none:=by rfl):PG X (.Tuple es k pos) (Zb8 X.K n t):=by
 intro pins s σ H v u Q I r hw;obtain⟨a,xs,q,hq,w,hw⟩:=hw;subst q;cases r;obtain⟨its,i,p,x⟩:=I.tuple hq;refine assign_Tuple_tuple (I.ok.hd hc) p (by simp[j,<- w,i.length]) f λh' hx=>?_;have l:Inv X pins σ H { s with heap:=h' }:=I.kept (t':=s.toks) λb o e=>hx b o (QaK (Qal e)) e;exact h pins _ σ H xs _ Q l (by simpa using i) hw
def Zau(to ti:TE)(t:ZaE):TG:=λv σ H Q=>to σ H λo H1=>ti σ H1 λi H2=>t o i v H2 λH3=>Q σ H3
def Z98(a:PE X o to)(hi:PE X i ti)(hs:ZaF X t)
  (b:∀ v,assign (.Subscript o i pos) X.env v=(do
   let ov <- holding [v] (eval o X.env)
   let iv <- holding [v,ov] (eval i X.env)
   standAt pos
   holding [v,ov,iv] (setItem ov iv v)
   release [v,ov,iv] []):=by intro _;rfl):PG X (.Subscript o i pos) (Zau to ti t):=by
 intro pins s σ H v u Q I r h;rw[b];refine Ra (Rf (thn (a pins s σ H _ I h) λov s1 ⟨x,H1,I1,r1,q1⟩=>?_));refine Ra (Rf (thn (hi pins s1 σ H1 _ I1 q1) λiv s2 ⟨y,H2,I2,r2,q2⟩=>?_));refine Ra (wpAny_standAt (Ra (Rf (thn (hs pins s2 σ H2 x y v ov iv u _ I2 r1 r2 r q2) λ_ s3 ⟨H3,I3,q3⟩=>?_))));exact wpAny_release ⟨σ,H3,I3,q3⟩
def Z2e(te:TE)(g:TG):TS:=λD σ H=>te σ H λx H1=>g x σ H1 D.nx
def Z4B(he:PE X e te)(a:PG X tg g)(hs:swapsWithSole [tg] e pos.line X.env=pure false:=by rfl)(hw:swappedStores [tg] e X.env=pure none:=by rfl)
  (h1:(assignEach [tg] X.env).map (·.2)=[assign tg X.env]:=by rfl):PS X (.Assign [tg] e pos) (Z2e te g):=by
 intro pins s σ H D I h;refine wpAny_Assign_stores (thn (he pins s σ H _ I h) λv s1 ⟨x,H1,I1,r1,q1⟩=>?_) hs hw;rw[h1];exact thn (a pins s1 σ H1 x v _ I1 r1 q1) λ_ s2 q=>q
def qD(b:X.N.Nodup)(hi:X.N[i]?=some x)(a:Loc X.env.scope x)(he:PE X e te)(hs:swapsWith e (some (.Name x pos')) pos.line X.env=pure false:=by rfl)(f:X.fn x=true\/X.env.scope.names.lookup x=some .local:=by first|exact .inl rfl|exact .inr rfl|assumption) :
  PS X (.Assign [.Name x pos'] e pos) (Z2e te (D5 i)):=by
 intro pins s σ H D I h;refine wpAny_Assign_Name (thn (he pins s σ H _ I h) λv s1 ⟨y,H1,I1,r1,q1⟩=>?_) hs;exact lU I1 b hi a r1 (λs2 I2=>⟨_,H1,I2,q1⟩) f
end
structure It where
 go:Nat->Hp->Prop
 yld:Nat->Hp->V->Hp->Prop
 stop:Nat->Hp->Prop
def zW(X:Cx)(pins:Ab (Af×Obj))(H:Hp)(b:Af):Prop :=
 H b=none/\b≠X.env.locals/\b∉X.fs/\(b∈X.ex\/X.s₀.heap.objs.size<=b)/\(∀x c,X.env.cells.lookup x=some c->c≠b)/\∀p∈X.pn++pins,p.1≠b
def Inv.fpOk(I:Inv X pins σ H s)(a:s.heap.objs.size<=b)(f:H' b=none):zW X pins H' b:=by
 refine⟨f,Nat.ne_of_gt (Qau I.lt a),I.nofs a,.inr (QaE I.sz a),λx c e z=>?_,λp hp z=>?_⟩
 .obtain⟨v,q⟩:=I.cell x c e;exact absurd (Qau q.lt (by rw[z];exact a)) (Qa9 _)
 .exact absurd (Qau (Qal (I.pin p hp).1) (by rw[z];exact a)) (Qa9 _)
structure Z1c(P:Program)(w:World)(K:Frag)(tg:Expr)(J:It)(fp:List Addr)(it:Addr)(tn:Nat->Heap->Prop):Prop where
 mem:it∈fp
 obj:∀i h,tn i h->∀b∈fp,∃o,h.get? b=some o/\∀v,o.data ≠ .cell v
 keep:∀i h h',tn i h->(∀b∈fp,∀o,h.get? b=some o->h'.get? b=some o)->tn i h'
 item:∀(X:Cx),X.prog=P->X.w=w->X.K=K->X.calm=true->∀(i:Nat) (pins:Ab (Af×Obj)) (s:Ac) (σ:St) (H:Hp) (E:Ad->Ac->Prop),Inv X pins σ H s->(∀b∈fp,zW X pins H b)->tn i s.heap->J.go i H ->
  wpAny (model P w) X.A (pyNext (.ref it)) (λr s1=>∃u,r=some u /\
   wpAny (model P w) X.A (letOwnedTupleGo tg (.ref it) u) (λ_ s2=>∃x H',Inv X pins σ H' s2/\RelV x u/\J.yld i H x H'/\tn (i+1) s2.heap/\∀b∈fp,H' b=none) E s1) E s
 done:∀(X:Cx),X.prog=P->X.w=w->X.K=K->X.calm=true->∀(i:Nat) (pins:Ab (Af×Obj)) (s:Ac) (σ:St) (H:Hp) (E:Ad->Ac->Prop),Inv X pins σ H s->(∀b∈fp,zW X pins H b)->tn i s.heap->J.stop i H ->
  wpAny (model P w) X.A (pyNext (.ref it)) (λr s1=>r=none/\Inv X pins σ H s1) E s
 self:∀(A:Ai) (i:Nat) (s:Ac) (Q:Ad->Ac->Prop) (E:Ad->Ac->Prop),tn i s.heap->Q (.ref it) s->wpAny (model P w) A (pyIter (.ref it)) Q E s
abbrev TI:=St->Hp->(It->Hp->Prop)->Prop
def PIE(X:Cx)(pins:Ab (Af×Obj))(σ:St)(tg:Ag)(R:It->Hp->Prop)(itv:Ad)(s2:Ac):Prop :=
 ∃(it:Af) (fp:Ab Af) (tn:Nat->Ah->Prop) (J:It) (H':Hp),itv=.ref it/\Inv X pins σ H' s2/\Z1c X.prog X.w X.K tg J fp it tn/\tn 0 s2.heap/\(∀b∈fp,zW X pins H' b)/\R J H'
def PI(X:Cx)(tg iter:Ag)(wi:TI):Prop :=
 ∀(pins:Ab (Af×Obj)) (s:Ac) (σ:St) (H:Hp) (R:It->Hp->Prop),Inv X pins σ H s->wi σ H R ->
  wpAny (model X.prog X.w) X.A (eval iter X.env) (λv s1=>wpAny (model X.prog X.w) X.A (pyIter v) (PIE X pins σ tg R) X.xe s1) X.xe s
def Z1Q(f:s.heap.get? it=some o)(hc:o.cls=.type n)(hd:o.data=.fields vs)
  (b:["enumerate","zip","dict_itemiterator","dict_reverseitemiterator","odict_iterator","itertools.zip_longest","itertools.pairwise"].contains n=false) (a:Q () s):wpAny M A (letOwnedTupleGo tg (.ref it) u) Q E s:=by
 unfold letOwnedTupleGo;cases tg<;>first
  |exact Rb a
  | (cases u <;> first
    |exact Rb a
    | (refine Ra (wpAny_load f ?_)
       rw[hc,hd];show wpAny M A (if (["enumerate","zip","dict_itemiterator","dict_reverseitemiterator","odict_iterator","itertools.zip_longest","itertools.pairwise"].contains n&&vs[0]?==some (rawInt _))=true then _ else _) Q E s;rw[if_neg (by intro h;rw[b,Bool.false_and]at h;cases h)];exact Rb a))
def Itl(K:Frag)(a:Af):It :=
 ⟨λi H=>∃xs x,SqL K H a xs/\xs[i]?=some x,λi H x H'=>H'=H/\∀xs,SqL K H a xs->xs[i]?=some x,λi H=>∃xs,SqL K H a xs/\xs.length<=i⟩
def Itt(K:Frag)(a:Af):It :=
 ⟨λi H=>∃xs x,SqT K H a xs/\xs[i]?=some x,λi H x H'=>H'=H/\∀xs,SqT K H a xs->xs[i]?=some x,λi H=>∃xs,SqT K H a xs/\xs.length<=i⟩
def Itr(lo:Int)(n:Nat):It:=⟨λi _=>i<n,λi H x H'=>H'=H/\x=.int (lo+i),λi _=>n<=i⟩
def Z2b{P:Aj}{w:Ak}{K:Frag}{tg:Ag}(a it:Af):Z1c P w K tg (Itl K a) [it] it (λi h=>h.IsListIter it a i) where
 mem:=by simp
 obj:=λi h st b hb=>by
  have e:b=it:=by simpa using hb
  subst e;obtain⟨o,e,c,d⟩:=st;exact⟨o,e,λv z=>by rw[d]at z;cases z⟩
 keep:=λi h h' st k=>st.at λo e=>k it (by simp) o e
 item:=by
  intro X l hw r hc i pins s σ H E I f st q;subst l hw r;obtain⟨xs,x,hq,n⟩:=q;obtain⟨its,A,p,J⟩:=I.list hq;obtain⟨u,G,C⟩:=A.get n;obtain⟨t,f1,L,B,j,y⟩:=f it (by simp);refine wpAny_pyNext_list_item st p.isList (x:=u) (by simpa using G) λh' st' sb=>?_;have F:Inv X pins σ H { s with heap:=h' }:=I.turned (t':=s.toks) (λb o hb e=>(sb.2 b hb).trans e) t f1 B j y;obtain⟨o,e,c,d⟩:=id st';exact⟨u,rfl,Z1Q (s:={ s with heap:=h' }) e c d (by decide) ⟨x,H,F,C,⟨rfl,λys hy=>by rw[I.list_inj hy hq];exact n⟩,st',λb hb=>(f b hb).1⟩⟩
 done:=by
  intro X l hw r hc i pins s σ H E I f st q;subst l hw r;obtain⟨xs,hq,n⟩:=q;obtain⟨its,A,p,J⟩:=I.list hq;obtain⟨t,f1,L,B,j,y⟩:=f it (by simp);have M:=A.length;exact wpAny_pyNext_list_end (I.ok.hd hc) st p.isList (by simp;omega) λh' eb=>⟨rfl,I.turned (t':=s.toks) (λb o hb e=>eb b o hb e) t f1 B j y⟩
 self:=λ_ _ _ _ _ st h=>wpAny_pyIter_listiter st h
def Z04{P:Aj}{w:Ak}{K:Frag}{tg:Ag}(a it:Af):Z1c P w K tg (Itt K a) [it] it (λi h=>h.IsTupleIter it a i) where
 mem:=by simp
 obj:=λi h st b hb=>by
  have e:b=it:=by simpa using hb
  subst e;obtain⟨o,e,c,d⟩:=st;exact⟨o,e,λv z=>by rw[d]at z;cases z⟩
 keep:=λi h h' st k=>st.at λo e=>k it (by simp) o e
 item:=by
  intro X l hw r hc i pins s σ H E I f st q;subst l hw r;obtain⟨xs,x,hq,n⟩:=q;obtain⟨its,A,p,J⟩:=I.tuple hq;obtain⟨u,G,C⟩:=A.get n;obtain⟨t,f1,L,B,j,y⟩:=f it (by simp);refine wpAny_pyNext_tuple_item st (show s.heap.IsTuple a its.toArray from p) (x:=u) (by simpa using G) λh' st' sb=>?_
  have F:Inv X pins σ H { s with heap:=h' }:=I.turned (t':=s.toks) (λb o hb e=>(sb.2 b hb).trans e) t f1 B j y;obtain⟨o,e,c,d⟩:=id st';exact⟨u,rfl,Z1Q (s:={ s with heap:=h' }) e c d (by decide) ⟨x,H,F,C,⟨rfl,λys hy=>by rw[I.tuple_inj hy hq];exact n⟩,st',λb hb=>(f b hb).1⟩⟩
 done:=by
  intro X l hw r hc i pins s σ H E I f st q;subst l hw r;obtain⟨xs,hq,n⟩:=q;obtain⟨its,A,p,J⟩:=I.tuple hq;obtain⟨t,f1,L,B,j,y⟩:=f it (by simp);have M:=A.length;exact wpAny_pyNext_tuple_end (I.ok.hd hc) st (show s.heap.IsTuple a its.toArray from p) (by simp;omega) λh' eb=>⟨rfl,I.turned (t':=s.toks) (λb o hb e=>eb b o hb e) t f1 B j y⟩
 self:=λ_ _ _ _ _ st h=>wpAny_pyIter_tupleiter st h
def Z05{P:Aj}{w:Ak}{K:Frag}{tg:Ag}(it:Af)(lo:Int)(n:Nat):Z1c P w K tg (Itr lo n) [it] it (λi h=>IsRangeIter h it (lo+(i:Nat)*1) ((n:Int)-(i:Nat)) 1) where
 mem:=by simp
 obj:=λi h st b hb=>by
  have e:b=it:=by simpa using hb
  subst e;exact⟨_,st,λv z=>by
   have y:Data.fields _=Data.cell v:=z;cases y⟩
 keep:=λi h h' st k=>k it (by simp) _ st
 item:=by
  intro X j hw p hc i pins s σ H E I a st l;subst j hw p;obtain⟨q,f1,A,u,f,r⟩:=a it (by simp);have W:=Walks.range (prog:=X.prog) (w:=X.w) (I.ok.hd hc) it lo 1 n;refine W.item i s _ _ l st λv h' tk hv st' kk=>?_;obtain⟨t,rfl⟩:=hv;have x:Inv X pins σ H { s with heap:=h',toks:=tk }:=I.turned (λb o hb e=>kk b o (by simpa using hb) e) q f1 u f r;refine⟨_,rfl,Z1Q (s:={ s with heap:=h',toks:=tk }) (n := "range_iterator") st' rfl rfl (by decide) ⟨.int (lo+i),H,x,⟨t,?_⟩,⟨rfl,rfl⟩,st',λb hb=>(a b hb).1⟩⟩;rw[Int.mul_one]
 done:=by
  intro X j hw p hc i pins s σ H E I a st l;subst j hw p;obtain⟨q,f1,A,u,f,r⟩:=a it (by simp);exact wpAny_pyNext_range_end (I.ok.hd hc) st (by have:n<=i:=l;omega) λh' eb=>⟨rfl,I.turned (t':=s.toks) (λb o hb e=>eb b o hb e) q f1 u f r⟩
 self:=λ_ _ _ _ _ st h=>wpAny_pyIter_rangeiter st h
section
variable {X:Cx}{tg:Ag}
def Zaq(K:Frag)(tl:TE):TI:=λσ H R=>tl σ H λx H1=>∃a,x=.ref a/\(∃xs,SqL K H1 a xs)/\R (Itl K a) H1
def Zb6(K:Frag)(tl:TE):TI:=λσ H R=>tl σ H λx H1=>∃a,x=.ref a/\(∃xs,SqT K H1 a xs)/\R (Itt K a) H1
def Z75{l:Ag}{tl:TE}(f:PE X l tl):PI X tg l (Zaq X.K tl):=by
 intro pins s σ H R I h;refine thn (f pins s σ H _ I h) λv s1 ⟨x,H1,I1,r1,q1⟩=>?_;obtain⟨a,e,⟨xs,hq⟩,q⟩:=q1;subst e;cases r1;obtain⟨its,j,p,i⟩:=I1.list hq;refine wpAny_pyIter_list p.isList ?_;refine⟨s1.heap.objs.size,[s1.heap.objs.size],_,_,H1,rfl,I1.kept (t':=s1.toks) λb o e=>Qag _ e,Z2b a _,⟨_,Qax _ rfl,rfl,rfl⟩,λb hb=>?_,q⟩;have e:b=s1.heap.objs.size:=by simpa using hb
 subst e;exact I1.fpOk (Qap _) (I1.hok.fresh (Qap _))
def Z95{l:Ag}{tl:TE}(f:PE X l tl):PI X tg l (Zb6 X.K tl):=by
 intro pins s σ H R I h;refine thn (f pins s σ H _ I h) λv s1 ⟨x,H1,I1,r1,q1⟩=>?_;obtain⟨a,e,⟨xs,hq⟩,q⟩:=q1;subst e;cases r1;obtain⟨its,j,p,i⟩:=I1.tuple hq;refine wpAny_pyIter_tuple (show s1.heap.IsTuple a its.toArray from p) ?_
 refine⟨s1.heap.objs.size,[s1.heap.objs.size],_,_,H1,rfl,I1.kept (t':=s1.toks) λb o e=>Qag _ e,Z04 a _,⟨_,Qax _ rfl,rfl,rfl⟩,λb hb=>?_,q⟩;have e:b=s1.heap.objs.size:=by simpa using hb
 subst e;exact I1.fpOk (Qap _) (I1.hok.fresh (Qap _))
def T1{pins:Ab (Af×Obj)}{σ:St}{H:Hp}{s:Ac}{R:It->Hp->Prop}{E:Ad->Ac->Prop}{lo hi:Int}{t u v:Tok}{tk:Nat}(I:Inv X pins σ H s)(h1:-(2^62)<=lo)(h2:lo<2^62)(h3:-(2^62)<=hi)(f:hi<2^62)
  (q:R (Itr lo (hi-lo).toNat) H):wpAny (model X.prog X.w) X.A (pyIter (.ref s.heap.objs.size)) (PIE X pins σ tg R) E { s with heap:=s.heap.push { cls:=.type "range",data:=.fields #[.int lo t,.int hi u,.int 1 v] },toks:=tk }:=by
 refine wpAny_pyIter_range (IsRange.new ..) (small_one h1 h2 h3 f) ?_;have a:Inv X pins σ H { s with heap:=s.heap.push { cls:=.type "range",data:=.fields #[.int lo t,.int hi u,.int 1 v] },toks:=tk }:=I.kept λb o e=>Qag _ e;refine⟨(s.heap.push { cls:=.type "range",data:=.fields #[.int lo t,.int hi u,.int 1 v] }).objs.size,[(s.heap.push { cls:=.type "range",data:=.fields #[.int lo t,.int hi u,.int 1 v] }).objs.size],_,_,H,rfl,
  a.kept (t':=tk) λb o e=>Qag _ e,Z05 _ lo (hi-lo).toNat,?_,λb hb=>?_,q⟩
 .have h:lo+((0:Nat):Int)*1=lo:=by simp
  have i:(((hi-lo).toNat:Nat):Int)-((0:Nat):Int)=Builtin.Range.rangeSize lo hi 1:=by rw[rangeSize_one];split<;>omega
  show IsRangeIter _ _ (lo+((0:Nat):Int)*1) ((((hi-lo).toNat:Nat):Int)-((0:Nat):Int)) 1;rw[h,i];exact Qax _ rfl
 .have e:b=(s.heap.push { cls:=.type "range",data:=.fields #[.int lo t,.int hi u,.int 1 v] }).objs.size:=by simpa using hb
  subst e;exact a.fpOk (Qap _) (a.hok.fresh (Qap _))
def Zap(ta:TA):TI:=λσ H R=>ta σ H λvs H1=>∃j:Int,vs=[.int j] /\ -(2^62)<=j/\j<2^62/\R (Itr 0 j.toNat) H1
def Zao(ta:TA):TI:=λσ H R=>ta σ H λvs H1=>∃i j:Int,vs=[.int i,.int j]/\(-(2^62)<=i/\i<2^62 /\ -(2^62)<=j/\j<2^62)/\R (Itr i (j-i).toNat) H1
def Z2K{a:Ag}{ta:TA}{p pos:Pos}(f:Gl X "range")(n:X.mg "range" = none)(i:PA X [a] ta)(hs:starEach [a] X.env=[(false,eval a X.env)]:=by rfl):PI X tg (.Call (.Name "range" p) [a] [] pos) (Zap ta):=by
 intro pins s σ H R I h;refine Call_ (tX I f n boot_range (PyProof.Rows.callWith_type1 (thn (i pos pins s σ H _ I h) λus s1 ⟨vs,H1,I1,r1,b⟩=>?_) hs rfl));obtain⟨j,e,b,l,q⟩:=b;subst e;cases r1 with
 |cons r rr =>
  cases rr;obtain⟨t,rfl⟩:=r;exact call_range_1 (T1 I1 (by omega) (by omega) b l (by simpa using q))
def Z2J(n:Gl X "range")(w:X.mg "range" = none)(u:PA X [a,b] ta)(hs:starEach [a,b] X.env=[(false,eval a X.env),(false,eval b X.env)]:=by rfl)(f:starEach [b] X.env=[(false,eval b X.env)]:=by rfl) :
  PI X tg (.Call (.Name "range" p) [a,b] [] pos) (Zao ta):=by
 intro pins s σ H R I h;refine Call_ (tX I n w boot_range (PyProof.Rows.callWith_type1 (thn (u pos pins s σ H _ I h) λus s1 ⟨vs,H1,I1,r1,l⟩=>?_) (by rw[hs,f]) (by rw[f];rfl)));obtain⟨i,j,e,⟨l,v,o,x⟩,q⟩:=l;subst e;cases r1 with
 |cons r rr =>
  cases rr with
  |cons r' rr =>
   cases rr;obtain⟨t,rfl⟩:=r;obtain⟨t',rfl⟩:=r';exact call_range_2 (T1 I1 l v o x q)
def ZaS(wi:TI)(g:TG)(tb:TS):TS:=λD σ H=>wi σ H λJ H1=>∃W:Nat->Nat->St->Hp->Prop,(∃m,W 0 m σ H1)/\∀i m σ H,W i m σ H ->
 (J.stop i H/\D.nx σ H)\/(J.go i H/\∃N:St->Hp->Prop,(∀σ' H',N σ' H'->∃m',m'<m/\W (i+1) m' σ' H')/\∀x H',J.yld i H x H'->g x σ H' λσ2 H2=>tb { D with nx:=N,ct:=N,bk:=D.nx } σ2 H2)
def xK(fp:Ab Af)(h:Ah):Ab (Af×Obj):=fp.filterMap λb=>(h.get? b).map λo=>(b,o)
def mS(a:b∈fp)(e:h.get? b=some o):(b,o)∈xK fp h:=List.mem_filterMap.mpr ⟨b,a,by rw[e];rfl⟩
def Z2N(a:p∈xK fp h):p.1∈fp/\h.get? p.1=some p.2:=by
 obtain⟨b,i,e⟩:=List.mem_filterMap.mp a;cases q:h.get? b with
 |none=>rw[q]at e;cases e
 |some o =>
  rw[q]at e;have f:(b,o)=p:=QaG e;subst f;exact⟨i,q⟩
def Inv.pinned(I:Inv X pins σ H s)(i:∀b∈fp,zW X pins H b)(h:∀b∈fp,∃o,s.heap.get? b=some o/\∀v,o.data ≠ .cell v):Inv X (pins++xK fp s.heap) σ H s :=
 I.pins_of λp hp=>(Qah.mp hp).elim (λz=>I.pin p (Qae _ z)) λz=>by
  obtain⟨f,e⟩:=Z2N z;obtain⟨l,f1,j,_⟩:=i p.1 f;obtain⟨o,a,d⟩:=h p.1 f;rw[e]at a;cases a;exact⟨e,l,f1,j,d⟩
def Inv.unpinned(I:Inv X (pins++pl) σ H s):Inv X pins σ H s:=I.pins_of λp hp=>I.pin p (Qae _ (Qan _ hp))
def Z0u(C:PassesOwn (model X.prog X.w) X.A X.env X.xe)(hc:X.calm=true)(hi:PI X tg iter wi)(U:PG X tg g)(p:PSs X body tb)
  (hs:∀x,foldedSetIterable iter X.env x=pure x:=by intro _;rfl):PS X (.For tg iter body [] pos) (ZaS wi g tb):=by
 intro pins s σ H D I h;refine wpAny_For (thn (hi pins s σ H _ I h) λv s1 h1=>thn h1 λitv s2 h2=>?_) hs;obtain⟨it,fp,L,J,P,e,S,T,G,M,W,⟨R,w0⟩,F⟩:=h2;subst e
 -- what stays true of the iterator's objects through the loop
 have t:∀{H':Hp},(∀b∈fp,H' b=none)->∀b∈fp,zW X pins H' b:=λhn b p=>⟨hn b p,(M b p).2⟩;refine codeAny_forLoop_any (λn s'=>∃i σ' H',Inv X pins σ' H' s'/\L i s'.heap/\(∀b∈fp,H' b=none)/\W i n σ' H') ?_ R ⟨0,σ,P,S,G,λb p=>(M b p).1,w0⟩;rintro n s3 ⟨i,σ3,H3,I3,st3,fr3,w3⟩;rcases F i n σ3 H3 w3 with⟨E,O⟩|⟨Z,N,hN,step⟩
 .refine wpAny_passesOwn C (thn (T.done X rfl rfl rfl hc i pins s3 σ3 H3 X.xe I3 (t fr3) st3 E) λr s4 ⟨hr,I4⟩=>?_);subst hr;exact wpAny_execs_nil ⟨σ3,H3,I4,O⟩
 .refine wpAny_passesOwn C (thn (T.item X rfl rfl rfl hc i pins s3 σ3 H3 X.xe I3 (t fr3) st3 Z) λr s4 ⟨u,hr,h4⟩=>?_);subst hr;refine wpAny_passesOwn C (thn h4 λ_ s5 ⟨x,H5,I5,r5,y5,st5,fr5⟩=>?_);have K:=I5.pinned (t fr5) (T.obj _ _ st5);refine wpAny_passesOwn C (thn (U _ s5 σ3 H5 x u _ K r5 (step x H5 y5)) λ_ s6 ⟨σ6,H6,I6,q6⟩=>?_);refine wpAny_passesOwn C (thn (p _ s6 σ6 H6 _ I6 q6) λf s7 q=>?_);have y:∀{a:St}{l:Hp},Inv X (pins++xK fp s5.heap) a l s7->N a l->∃m,m<n/\∃i σ' H',Inv X pins σ' H' s7/\L i s7.heap/\(∀b∈fp,H' b=none)/\W i m σ' H':=λ{a l} j B=>by
   obtain⟨m',hm,Y⟩:=hN a l B;refine⟨m',hm,i+1,a,l,j.unpinned,T.keep _ _ _ st5 λb p o e=>(j.pin (b,o) (Qae _ (Qae _ (mS p e)))).1,λb p=>?_,Y⟩;obtain⟨o,e,d⟩:=T.obj _ _ st5 b p;exact(j.pin (b,o) (Qae _ (Qae _ (mS p e)))).2.1
  cases f with
  |next=>obtain⟨a,l,j,B⟩:=q;exact y j B
  |cont=>obtain⟨a,l,j,B⟩:=q;exact y j B
  |brk=>obtain⟨a,l,j,q⟩:=q;exact⟨a,l,j.unpinned,q⟩
  |ret v=>obtain⟨Q,a,l,j,r7,q⟩:=q;exact⟨Q,a,l,j.unpinned,r7,q⟩
end
abbrev R2:=V->V->Hp->VK->Prop
def OpR(X:Cx)(f:Ad->Ad->Sem Ad)(r:R2):Prop :=
 ∀(pins:Ab (Af×Obj)) (s:Ac) (σ:St) (H:Hp) (x y:V) (v u:Ad) (Q:VK),Inv X pins σ H s->RelV x v->RelV y u->r x y H Q ->
  wpAny (model X.prog X.w) X.A (f v u) (EP X pins σ Q) X.xe s
def UnR(X:Cx)(f:Ad->Sem Ad)(r:V->Hp->VK->Prop):Prop :=
 ∀(pins:Ab (Af×Obj)) (s:Ac) (σ:St) (H:Hp) (x:V) (v:Ad) (Q:VK),Inv X pins σ H s->RelV x v->r x H Q ->
  wpAny (model X.prog X.w) X.A (f v) (EP X pins σ Q) X.xe s
def CallR(X:Cx)(f:Ad)(r:Ab V->Hp->VK->Prop):Prop :=
 ∀(pins:Ab (Af×Obj)) (s:Ac) (σ:St) (H:Hp) (xs:Ab V) (us:Ab Ad) (Q:VK),Inv X pins σ H s->Vals xs us->r xs H Q ->
  wpAny (model X.prog X.w) X.A (call f us) (EP X pins σ Q) X.xe s
def tOp(r:R2)(ta tb:TE):TE:=λσ H Q=>ta σ H λx H1=>tb σ H1 λy H2=>r x y H2 Q
def tUn(r:V->Hp->VK->Prop)(ta:TE):TE:=λσ H Q=>ta σ H λx H1=>r x H1 Q
def rI(C:Int->Int->Prop)(g:Int->Int->V):R2:=λx y H Q=>∃i j,x=.int i/\y=.int j/\C i j/\Q (g i j) H
def rI0(g:Int->Int->V):R2:=λx y H Q=>∃i j,x=.int i/\y=.int j/\Q (g i j) H
def rU(g:Int->V):V->Hp->VK->Prop:=λx H Q=>∃i,x=.int i/\Q (g i) H
section
variable {X:Cx}{a b:Ag}{ta tb:TE}{pos:Pos}
def Z9B(i:PE X a ta)(j:PE X b tb){pins:Ab (Af×Obj)}{s:Ac}{σ:St}{H:Hp}{R:V->V->Hp->Prop}(I:Inv X pins σ H s)
  (h:ta σ H λx H1=>tb σ H1 λy H2=>R x y H2) {Q:Ad->Ac->Prop}{f:Ad->Ad->Sem Ad}
  (l:∀v u s2 x y H2,Inv X pins σ H2 s2->RelV x v->RelV y u->R x y H2->wpAny (model X.prog X.w) X.A (f v u) Q X.xe s2) :
  wpAny (model X.prog X.w) X.A (eval a X.env) (λv s₁=>wpAny (model X.prog X.w) X.A (eval b X.env) (λu s₂=>wpAny (model X.prog X.w) X.A (f v u) Q X.xe s₂) X.xe s₁) X.xe s:=by
 refine thn (i pins s σ H _ I h) λv s1 ⟨x,H1,I1,r1,q1⟩=>?_;refine thn (j pins s1 σ H1 _ I1 q1) λu s2 ⟨y,H2,I2,r2,q2⟩=>?_;exact l v u s2 x y H2 I2 r1 r2 q2
def pe_op(f:OpR X (binaryOp op) r)(i:PE X a ta)(j:PE X b tb):PE X (.BinOp a op b pos) (tOp r ta tb):=by
 intro pins s σ H Q I h;exact wpAny_BinOp (Z9B i j I h λv u s2 x y H2 I2 rx ry q=>f pins s2 σ H2 x y v u Q I2 rx ry q)
def pe_un(b:UnR X (unaryOp op) r)(f:PE X a ta):PE X (.UnaryOp op a pos) (tUn r ta):=by
 intro pins s σ H Q I h;exact UnaryOp_ (thn (f pins s σ H _ I h) λv s1 ⟨x,H1,I1,r1,q1⟩=>b pins s1 σ H1 x v Q I1 r1 q1)
def opI{f:Ad->Ad->Sem Ad}{C:Int->Int->Prop}{g:Int->Int->Int}
  (rule:∀(i j:Int) (t u:Tok) (s:Ac) (Q:Ad->Ac->Prop) (E:Ad->Ac->Prop),C i j->Q (.int (g i j) s.toks) { s with toks:=s.toks+1 }->wpAny (model X.prog X.w) X.A (f (.int i t) (.int j u)) Q E s) :
  OpR X f (rI C λi j=>.int (g i j)):=by
 intro pins s σ H x y v u Q I a b h;obtain⟨i,j,rfl,rfl,hc,q⟩:=h;obtain⟨t,rfl⟩:=a;obtain⟨t',rfl⟩:=b;exact rule i j t t' s _ _ hc ⟨.int (g i j),H,I.tok _,⟨_,rfl⟩,q⟩
def Z4P{f:Ad->Ad->Sem Ad}{g:Int->Int->Int}
  (rule:∀(i j:Int) (t u:Tok) (s:Ac) (Q:Ad->Ac->Prop) (E:Ad->Ac->Prop),Q (.int (g i j) s.toks) { s with toks:=s.toks+1 }->wpAny (model X.prog X.w) X.A (f (.int i t) (.int j u)) Q E s) :
  OpR X f (rI0 λi j=>.int (g i j)):=by
 intro pins s σ H x y v u Q I a b h;obtain⟨i,j,rfl,rfl,q⟩:=h;obtain⟨t,rfl⟩:=a;obtain⟨t',rfl⟩:=b;exact rule i j t t' s _ _ ⟨.int (g i j),H,I.tok _,⟨_,rfl⟩,q⟩
def Z9f{f:Ad->Ad->Sem Ad}{g:Int->Int->Bool}
  (rule:∀(i j:Int) (t u:Tok) (s:Ac) (Q:Ad->Ac->Prop) (E:Ad->Ac->Prop),Q (.bool (g i j)) s->wpAny (model X.prog X.w) X.A (f (.int i t) (.int j u)) Q E s) :
  OpR X f (rI0 λi j=>.bl (g i j)):=by
 intro pins s σ H x y v u Q I a b h;obtain⟨i,j,rfl,rfl,q⟩:=h;obtain⟨t,rfl⟩:=a;obtain⟨t',rfl⟩:=b;exact rule i j t t' s _ _ ⟨.bl (g i j),H,I,rfl,q⟩
def Z1d(i j:Int):Prop:=0<=j/\j<=1000000/\i.natAbs<2^64
def Z03(k:Nat):(0:Int)<=2^k:=by
 rw[two_pow_cast];exact Int.natCast_nonneg _
def dJ:OpR X (binaryOp .Add) (rI0 λi j=>.int (i+j)):=Z4P λ_ _ _ _ _ _ _ q=>add_int q
def eE:OpR X (binaryOp .Sub) (rI0 λi j=>.int (i-j)):=Z4P λ_ _ _ _ _ _ _ q=>sub_int q
def bX:OpR X (binaryOp .Mod) (rI (λ_ j=>0<j) λi j=>.int (i%j)):=opI λi j _ _ _ _ _ hc q=>by
 have h1:(0:Int)<j:=hc;exact mod_int' (by omega) (by rw[Int.fmod_eq_emod_of_nonneg i (by omega)];exact q)
def L9:OpR X (binaryOp .Pow) (rI Z1d λi j=>.int (i^j.toNat)):=opI λ_ _ _ _ _ _ _ hc q=>pow_int_small hc.1 hc.2.1 hc.2.2 q
def Z4L:OpR X (binaryOp .RShift) (rI (λ_ j=>0<=j) λi j=>.int (i/2^j.toNat)):=opI λi j _ _ _ _ _ hc q =>
 rshift_int hc (by rw[Int.fdiv_eq_ediv_of_nonneg i (Z03 _)];exact q)
def tI:OpR X (binaryOp .BitAnd) (rI0 λi j=>.int (Builtin.bitAnd i j)):=Z4P λ_ _ _ _ _ _ _ q=>and_int q
def xL:OpR X (binaryOp .BitOr) (rI0 λi j=>.int (Builtin.bitOr i j)):=Z4P λ_ _ _ _ _ _ _ q=>or_int q
def Z0y:OpR X (binaryOp .BitXor) (rI0 λi j=>.int (Builtin.bitXor i j)):=Z4P λ_ _ _ _ _ _ _ q=>xor_int q
def unI{f:Ad->Sem Ad}{g:Int->Int}
  (rule:∀(i:Int) (t:Tok) (s:Ac) (Q:Ad->Ac->Prop) (E:Ad->Ac->Prop),Q (.int (g i) s.toks) { s with toks:=s.toks+1 }->wpAny (model X.prog X.w) X.A (f (.int i t)) Q E s) :
  UnR X f (rU λi=>.int (g i)):=by
 intro pins s σ H x v Q I a h;obtain⟨i,rfl,q⟩:=h;obtain⟨t,rfl⟩:=a;exact rule i t s _ _ ⟨.int (g i),H,I.tok _,⟨_,rfl⟩,q⟩
def Z02:UnR X (unaryOp .USub) (rU λi=>.int (-i)):=unI λ_ _ _ _ _ q=>neg_int q
end
section
variable {X:Cx}{a b c:Ag}{ta tb:TE}{pos:Pos}
def Z0Y(I:Inv X pins σ H s)(q:Q (.bl k) H)(e:k=k'):EP X pins σ Q (.bool k') s:=by
 subst e;exact⟨.bl k,H,I,rfl,q⟩
def Z4N:OpR X (compareOp .Lt) (rI0 λi j=>.bl (decide (i<j))):=Z9f λ_ _ _ _ _ _ _ q=>lt_int q
def Zag:OpR X (compareOp .Gt) (rI0 λi j=>.bl (decide (j<i))):=Z9f λ_ _ _ _ _ _ _ q=>gt_int q
def Zah:OpR X (compareOp .GtE) (rI0 λi j=>.bl (decide (j<=i))):=Z9f λ_ _ _ _ _ _ _ q=>ge_int q
def Z2M:OpR X (compareOp .In) (λx y H Q=>∃i j,x=.str i/\y=.str j/\Q (.bl (!(Builtin.Str.occurrences j i 0 j.length 1).isEmpty)) H):=by
 intro pins s σ H x y v u Q I a b h;obtain⟨i,j,rfl,rfl,q⟩:=h;obtain⟨t,rfl⟩:=a;obtain⟨t',rfl⟩:=b;exact in_str (Z0Y I q rfl)
def Z9e:OpR X (compareOp .Is) (λx y H Q=>y=.non/\Q (.bl (decide (x=.non))) H):=by
 intro pins s σ H x y v u Q I a b h;obtain⟨rfl,q⟩:=h;cases b;refine is_none_gen (Z0Y I q ?_);cases x<;>first
  |(cases a;rfl)
  |(obtain⟨t,rfl⟩:=a;rfl)
def Z7c:OpR X (compareOp .IsNot) (λx y H Q=>y=.non/\Q (.bl (!decide (x=.non))) H):=by
 intro pins s σ H x y v u Q I a b h;obtain⟨rfl,q⟩:=h;cases b;refine isnot_none_gen (Z0Y I q ?_);cases x<;>first
  |(cases a;rfl)
  |(obtain⟨t,rfl⟩:=a;rfl)
def Zal:HO->Bool
 | .lst _=>true
 | .ins _ _ _=>true
 |_=>false
def C1{pins:Ab (Af×Obj)}{s:Ac}{σ:St}{H:Hp}{a:Af}{o:HO}(I:Inv X pins σ H s)(h:H a=some o)(p:Zal o=true):∃ob,s.heap.get? a=some ob/\ob.cls ≠ .type "tuple":=by
 cases o with
 |lst xs =>
  obtain⟨_,its,n,_,e⟩:xs.length<=sizeLine/\∃(its:Ab Ad) (n:Nat),Vals xs its/\s.heap.get? a=some { cls:=.type "list",data:=.seq its.toArray n }:=I.hok a _ h;exact⟨_,e,(by show Value.type "list" ≠ .type "tuple";decide +kernel)⟩
 |ins C dx fs =>
  have x:=I.hok a _ h;obtain⟨_,_,_,e,_⟩:=x;exact⟨_,e,(by show Value.ref C ≠ .type "tuple";exact λz=>by cases z)⟩
 |_=>exact absurd (show false=true from p) Qbg
def jJ(b:Ag){a:CmpOp}(h:a ≠ .In:=by decide)(h2:a ≠ .NotIn:=by decide):behindInMarks a b=false:=by
 have f:(a==CmpOp.In)=false:=by cases a<;>first|rfl|exact absurd rfl h
 have i:(a==CmpOp.NotIn)=false:=by cases a<;>first|rfl|exact absurd rfl h2
 cases b<;>simp[behindInMarks,f,i]
def vZ(f:OpR X (compareOp op) r)(i:PE X a ta)(j:PE X b tb)(l:behindInMarks op b=false):PE X (.Compare a [op] [b] pos) (tOp r ta tb):=by
 intro pins s σ H Q I h;exact wpAny_Compare1 (Z9B i j I h λv u s2 x y H2 I2 rx ry q=>f pins s2 σ H2 x y v u Q I2 rx ry q) l
def Z9L(t:TE):TT:=λσ H Q=>t σ H λx H'=>∃k,x=.bl k/\Q k H'
def Z1F(f:OpR X (compareOp op) r)(i:PE X a ta)(j:PE X b tb)(l:behindInMarks op b=false):PT X (.Compare a [op] [b] pos) (Z9L (tOp r ta tb)):=by
 intro pins s σ H Q I h;refine wpAny_isTrue_Compare1 (thn (i pins s σ H _ I h) λv s1 ⟨x,H1,I1,r1,q1⟩=>thn (j pins s1 σ H1 _ I1 q1) λu s2 ⟨y,H2,I2,r2,q2⟩ =>
  thn (f pins s2 σ H2 x y v u _ I2 r1 r2 q2) λc s3 ⟨z,H3,I3,r3,k,e,q3⟩=>?_) l
 subst e;cases r3;exact wpAny_truthy_bool ⟨H3,I3,q3⟩
def tS:(sizeLine:Nat)<2^63:=by rw[sizeLine_eq];decide
def Z0B:OpR X (binaryOp .Add) (λx y H Q=>∃i j,x=.str i/\y=.str j/\i.length+j.length<=sizeLine/\Q (.str (i++j)) H):=by
 intro pins s σ H x y v u Q I a f h;obtain⟨i,j,rfl,rfl,b,q⟩:=h;obtain⟨t,rfl⟩:=a;obtain⟨t',rfl⟩:=f;exact add_str (λt' tk=>⟨.str (i++j),H,I.tok _,⟨_,rfl⟩,q⟩) b
def pN(r:Vals [x] us):∃u,us=[u]/\RelV x u:=by
 cases r with
 |cons r1 r2=>cases r2;exact⟨_,rfl,r1⟩
def Z1i(r:Vals [x,y] us):∃u w',us=[u,w']/\RelV x u/\RelV y w':=by
 cases r with
 |cons r1 r2 =>
  cases r2 with
  |cons r3 r4=>cases r4;exact⟨_,_,rfl,r1,r3⟩
def Z3g(hc:X.calm=true):CallR X (.builtin "max") (λxs H Q=>∃i j,xs=[.int i,.int j]/\Q (.int (if j > i then j else i)) H):=by
 intro pins s σ H xs us Q I r h;obtain⟨i,j,rfl,q⟩:=h;obtain⟨u,w',rfl,⟨t,rfl⟩,⟨t',rfl⟩⟩:=Z1i r;refine max_two_ints (I.ok.hd hc) λh' tk k=>⟨_,H,I.kept k,?_,q⟩;by_cases a:j > i
 .rw[if_pos a,if_pos a];exact⟨_,rfl⟩
 .rw[if_neg a,if_neg a];exact⟨_,rfl⟩
def Z3f(hc:X.calm=true):CallR X (.builtin "min") (λxs H Q=>∃i j,xs=[.int i,.int j]/\Q (.int (if j<i then j else i)) H):=by
 intro pins s σ H xs us Q I r h;obtain⟨i,j,rfl,q⟩:=h;obtain⟨u,w',rfl,⟨t,rfl⟩,⟨t',rfl⟩⟩:=Z1i r;refine min_two_ints (I.ok.hd hc) λh' tk k=>⟨_,H,I.kept k,?_,q⟩;by_cases a:j<i
 .rw[if_pos a,if_pos a];exact⟨_,rfl⟩
 .rw[if_neg a,if_neg a];exact⟨_,rfl⟩
def Z3i:CallR X (.type "int") (λxs H Q=>(∃i,xs=[.int i]/\Q (.int i) H)\/∃k,xs=[.bl k]/\Q (.int (if k then 1 else 0)) H):=by
 intro pins s σ H xs us Q I r h;rcases h with⟨i,rfl,q⟩|⟨k,rfl,q⟩
 .obtain⟨u,rfl,t,rfl⟩:=pN r;exact call_int_int ⟨.int i,H,I,⟨_,rfl⟩,q⟩
 .obtain⟨u,rfl,a⟩:=pN r;cases a;exact call_int_bool ⟨.int (if k then 1 else 0),H,I.tok _,⟨_,rfl⟩,q⟩
def sA:CallR X (.type "str") (λxs H Q=>∃i,xs=[.int i]/\i.natAbs.log2<1920/\Q (.str (toString i)) H):=by
 intro pins s σ H xs us Q I r h;obtain⟨i,rfl,a,q⟩:=h;obtain⟨u,rfl,t,rfl⟩:=pN r;exact PySem.P.str_of_int a ⟨.str _,H,I.tok _,⟨_,rfl⟩,q⟩
end
structure ObjM(h:Heap)(x dx C:Addr)(mA:Str->Option Value):Prop where
 obj:h.get? x=some (PySem.W.instObj C dx)
 ns:h.Ns1 dx mA
 ne:dx≠x
def Z2V{h:Ah}{dx:Af}{mA:Str->Aa Ad}(n:h.Ns1 dx mA):∃od,h.get? dx=some od/\∀name,PySem.W.lookIn name od=some (mA name):=by
 obtain⟨o,es,ep,i,hd,p,_,l⟩:=n;refine⟨o,i,λname=>?_⟩;have e:=l name;unfold nsFind findBy at e;rw[<- Array.find?_toList]at e;unfold PySem.W.lookIn;rw[hd];dsimp only;split
 .rename_i y q;rw[q]at e;exact congrArg some e
 .rename_i q;rw[q]at e;have a:es.toList.any (·.refKey)=false:=by
   rw[List.any_eq_false];intro y f;obtain⟨z,t,b⟩:=p y (Array.mem_toList_iff.mp f);simp[DictEntry.refKey,b]
  have j:¬es.toList.any (·.refKey)=true:=by rw[a];exact Qbg
  rw[if_neg j];exact congrArg some e
def ObjM.look(I:ObjM h x dx C mA):∃od,PySem.W.InstAt h x (PySem.W.instObj C dx) C (some od)/\∀name,PySem.W.lookIn name od=some (mA name) :=
 let ⟨od,ho,hl⟩:=Z2V I.ns
 ⟨od,⟨I.obj,rfl,rfl,ho⟩,hl⟩
section
variable {prog:Aj}{w:Ak}{A:Ai}{E:Ad->Ac->Prop}{s:Ac}{K:Frag}{x dx C f:Af}{mA:Str->Aa Ad}{name:Str}{v:Ad}
def Z7J(X:K.In s.heap)(I:ObjM s.heap x dx C mA)(b:PySem.W.plainGet K C name=true)(i:PySem.W.hasDictIn K C=true)
  (f:PySem.W.findIn K (.ref C) name=some none) (l:mA name=some v) (a:PySem.W.handedIn v=true) (h:Q v { s with toks:=s.toks+1 }) :
  wpAny (model prog w) A (getAttr (.ref x) name expr) Q E s:=by
 obtain⟨n,J,j⟩:=I.look;exact PySem.W.get_value X J (PySem.W.plainGet_of b).1 (PySem.W.findObj_own i f rfl (by rw[j,l])) a h
def Z5i(X:K.In s.heap)(I:ObjM s.heap x dx C mA)(a:PySem.W.plainGet K C name=true)
  (i:PySem.W.findIn K (.ref C) name=some (some (.ref f))) (l:PySem.W.isFn K (.ref f)=true) (n:mA name=none) (h:Q (.ref f,[.ref x]) s) :
  wpAny (model prog w) A (getMethod (.ref x) name pl) Q E s:=by
 obtain⟨j,J,b⟩:=I.look;exact PySem.W.method_fn X J (PySem.W.plainGet_of a).1 (PySem.W.plainGet_of a).2 i (beq_iff_eq.mp l) (by show(PySem.W.lookIn name j).map (·.isSome)=some false;rw[b,n];rfl) h
def Z6l(X:K.In s.heap)(I:ObjM s.heap x dx C mA)
  (hs:PySem.W.findIn K (.ref C) "__setattr__" = some (some (.builtin "object.__setattr__"))) (p:PySem.W.plainOver K C=true) (o:PySem.W.takerIn K C name=some none) (q:PySem.W.hasDictIn K C=true)
  (hw:PySem.Within mA ns) (u:ns.length<=sizeLine)
  (h:∀h',ObjM h' x dx C (λy=>if y=name then some v else mA y)->Heap.SameBut dx s.heap h'->Q () { s with heap:=h',toks:=s.toks+2 }) :
  wpAny (model prog w) A (setAttr (.ref x) name v) Q E s:=by
 obtain⟨H,J,G⟩:=I.look;refine PySem.W.set_plain X J hs (PySem.W.osa_open (s:={ s with toks:=s.toks+1 }) (r:=none) X J p o λb=>?_);obtain⟨cd,hc,j⟩:=PySem.W.any_some q;have n:s.heap.get? x=some ⟨.ref C,some dx,.plain,#[]⟩:=I.obj;refine Ra (Rb (Ra (Ra (wpAny_loadPart n (Ra (PySem.W.Looks.here (s:={ s with toks:=s.toks+1 }) (PySem.W.looks_clsIn X hc) ?_))))));rw[j];refine Rb (a:=some dx) (Ra (Rb (Ra ?_)));refine wpAny_nsSet1 (s:={ s with toks:=s.toks+1 }) I.ns λh' hn2 hs2=>?_;obtain⟨F,t,B,f,l,i⟩:=hn2.count (PySem.Within.cons name v hw);refine Ra (wpAny_lookBehind f (by rw[l];exact pastItsLine_dict (QaE i (by rw[Qaf];omega))) ?_);exact Rb (h _ ⟨(hs2.2 _ (Ne.symm I.ne)).trans I.obj,hn2,I.ne⟩ hs2)
def Z4Z(X:K.In s.heap)(i:PySem.W.makesIn K C=true)
  (hi:PySem.W.findIn K (.ref C) "__init__" = some (some (.ref f))) (b:PySem.W.typeIn K (.ref f)=some (.type "function"))
  (h:codeAny (model prog w) (A.under (.builtin "type.__call__" ⟨.ref C :: vs,kw⟩)) (.call (.ref f) ⟨.ref (s.heap.objs.size + 1) :: vs,kw⟩) (PySem.W.InitBack (s.heap.objs.size + 1) R)
   { s with heap:=(s.heap.push PySem.W.emptyDict).push (PySem.W.instObj C s.heap.objs.size) }) :
  codeAny (model prog w) A (.call (.ref C) ⟨vs,kw⟩) R s:=by
 obtain⟨j,g,d,t,os⟩:=s;exact PySem.W.make_core (PySem.W.makes_of X i) (PySem.W.looks_findIn X hi) (λa=>PySem.W.bind_fn X a b) (.inl rfl) h
end
def jT(f:Str)(v:V):Ab (Str×V)->Ab (Str×V)
 |[]=>[(f,v)]
 |(g,x)::r=>if g=f then(g,v)::r else(g,x)::jT f v r
theorem uU(f g:Str)(v:V):∀fs:Ab (Str×V),(jT f v fs).lookup g=if g=f then some v else fs.lookup g
 |[]=>by
  show List.lookup g [(f,v)]=_;by_cases h:g=f
  .have a:(g==f)=true:=beq_iff_eq.mpr h;simp only[List.lookup,a,if_pos h]
  .have a:(g==f)=false:=beq_eq_false_iff_ne.mpr h;simp only[List.lookup,a,if_neg h]
 |(k,x)::r=>by
  have i:=uU f g v r;rw[show jT f v ((k,x)::r)=(if k=f then(k,v)::r else(k,x)::jT f v r) from rfl]
  by_cases b:k=f
  .rw[if_pos b];by_cases h:g=k
   .have a:(g==k)=true:=beq_iff_eq.mpr h;simp only[List.lookup,a,if_pos (h.trans b)]
   .have a:(g==k)=false:=beq_eq_false_iff_ne.mpr h;simp only[List.lookup,a,if_neg (λe:g=f=>h (e.trans b.symm))]
  .rw[if_neg b];by_cases h:g=k
   .have a:(g==k)=true:=beq_iff_eq.mpr h;simp only[List.lookup,a,if_neg (λe:g=f=>b (h.symm.trans e))]
   .have a:(g==k)=false:=beq_eq_false_iff_ne.mpr h;simp only[List.lookup,a];exact i
theorem tY(f:Str)(v:V):∀fs:Ab (Str×V),f∈(jT f v fs).map (·.1)/\∀g,g∈fs.map (·.1)->g∈(jT f v fs).map (·.1)
 |[]=>⟨by simp[jT],λg h=>by simp at h⟩
 |(k,x)::r=>by
  obtain⟨i1,i2⟩:=tY f v r;rw[show jT f v ((k,x)::r)=(if k=f then(k,v)::r else(k,x)::jT f v r) from rfl]
  by_cases a:k=f
  .rw[if_pos a];subst a;exact⟨by simp,λg h=>by simpa using h⟩
  .rw[if_neg a];refine⟨?_,λg h=>?_⟩
   .rw[Qat];exact Qaa _ i1
   .rw[Qat]at h ⊢;rcases Qad.mp h with e|e
    .exact Qad.mpr (.inl e)
    .exact Qaa _ (i2 g e)
theorem uV(f:Str)(v:V):∀fs:Ab (Str×V),(jT f v fs).length<=fs.length+1
 |[]=>by simp[jT]
 |(k,x)::r=>by
  have b:=uV f v r;rw[show jT f v ((k,x)::r)=(if k=f then(k,v)::r else(k,x)::jT f v r) from rfl]
  by_cases a:k=f
  .rw[if_pos a,Qaf,Qaf];omega
  .rw[if_neg a,Qaf,Qaf];omega
def RelO.some_of(r:RelO (some v) o):∃u,o=some u/\RelV v u:=by
 cases o with
 |none=>exact(show False from r).elim
 |some u=>exact⟨u,rfl,r⟩
def RelO.none_of(r:RelO none o):o=none:=by
 cases o with
 |none=>rfl
 |some u=>exact(show False from r).elim
def Z34(r:RelV v u):PySem.W.handedIn u=true:=by
 cases v with
 |non=>cases (show u=Value.none from r);rfl
 |bl b=>cases (show u=Value.bool b from r);rfl
 |int i=>obtain⟨t,e⟩:=(show ∃t,u=Value.int i t from r);cases e;rfl
 |str x=>obtain⟨t,e⟩:=(show ∃t,u=Value.str x t from r);cases e;rfl
 |byt b=>obtain⟨t,e⟩:=(show ∃t,u=Value.bytes b t from r);cases e;rfl
 |flt b=>obtain⟨t,e⟩:=(show ∃t,u=Value.float b t from r);cases e;rfl
 |ref a=>cases (show u=Value.ref a from r);rfl
 |ty n=>cases (show u=Value.type n from r);rfl
section
variable {P:Aj}{w:Ak}{H:Hp}{h:Ah}{a C dx:Af}{fs:Ab (Str×V)}
def M9(b:HOk P w H h)(e:H a=some (.ins C dx fs)):∃mA,ObjM h a dx C mA/\(∀f,RelO (fs.lookup f) (mA f))/\PySem.Within mA (fs.map (·.1))/\fs.length<=1000/\H dx=some (.own a):=by
 obtain⟨d,z,j,i,mA,n,r,q⟩:=(show ObjOk P w H h a (.ins C dx fs) from b a _ e)
 exact⟨mA,⟨i,n,j⟩,r,q,z,d⟩
end
structure Cls(K:Frag)(C:Addr):Prop where
 pg:PySem.W.plainGet K C Str.empty=true
 hd:PySem.W.hasDictIn K C=true
 po:PySem.W.plainOver K C=true
 sa:PySem.W.findIn K (.ref C) "__setattr__" = some (some (.builtin "object.__setattr__"))
def Cls.get{K:Frag}{C:Af}(c:Cls K C)(f:Str):PySem.W.plainGet K C f=true:=c.pg
def NoAttr(K:Frag)(C:Af)(f:Str):Prop:=PySem.W.findIn K (.ref C) f=some none
def NoAttr.taker{K:Frag}{C:Af}{f:Str}(n:NoAttr K C f):PySem.W.takerIn K C f=some none:=by
 unfold PySem.W.takerIn;rw[show PySem.W.findIn K (.ref C) f=some none from n]
 rfl
structure Con(K:Frag)(C:Addr)(f:Str)(v:V)(u:Value):Prop where
 at_:PySem.W.findIn K (.ref C) f=some (some u)
 rel:RelV v u
 get:PySem.W.specialIn K u "__get__" = some none
 cp:PySem.W.copiedNames.contains f=false
structure ZaH(K:Frag)(C:Addr)(m:Str)(f:Addr):Prop where
 at_:PySem.W.findIn K (.ref C) m=some (some (.ref f))
 fn:PySem.W.isFn K (.ref f)=true
 kp:keepIn K (.ref f)=true
section
variable {X:Cx}{pins:Ab (Af×Obj)}{σ:St}{H:Hp}{s:Ac}{a C dx:Af}{fs:Ab (Str×V)}{f:Str}{v:V}{A:Ai}{E:Ad->Ac->Prop}
def Z0S(I:Inv X pins σ H s)(e:H a=some (.ins C dx fs))(c:Cls X.K C)(n:NoAttr X.K C f)(l:fs.lookup f=some v)
  (h:∀u s',Inv X pins σ H s'->RelV v u->Q u s'):wpAny (model X.prog X.w) A (getAttr (.ref a) f b) Q E s:=by
 obtain⟨mA,O,r,_,_,_⟩:=M9 I.hok e;obtain⟨u,j,i⟩:=RelO.some_of (v:=v) (o:=mA f) (by rw[<- l];exact r f);exact Z7J I.kIn O (c.get f) c.hd n j (Z34 i) (h u _ (I.tok _) i)
def Z0R(I:Inv X pins σ H s)(e:H a=some (.ins C dx fs))(c:Cls X.K C)(k:ZaH X.K C m g)(l:fs.lookup m=none)
  (h:Q (.ref g,[.ref a]) s):wpAny (model X.prog X.w) A (getMethod (.ref a) m pl) Q E s:=by
 obtain⟨mA,O,r,_,_,_⟩:=M9 I.hok e;have b:mA m=none:=RelO.none_of (by rw[<- l];exact r m);exact Z5i I.kIn O (c.get m) k.at_ k.fn b h
def Z0c(I:Inv X pins σ H s)(e:H a=some (.ins C dx fs))(c:Cls X.K C)(n:NoAttr X.K C f)(t:fs.length<1000)(p:RelV y u)
  (h:∀s',Inv X pins σ (upd H a (.ins C dx (jT f y fs))) s'->Q () s'):wpAny (model X.prog X.w) A (setAttr (.ref a) f u) Q E s:=by
 obtain⟨mA,O,r,j,_,i⟩:=M9 I.hok e;have l:(fs.map (·.1)).length<=sizeLine:=by rw[Qab,sizeLine_eq];omega
 refine Z6l I.kIn O c.sa c.po n.taker c.hd j l λh' O' sb=>h _ ?_;have hd:∃o,h'.get? dx=some o:=let ⟨o,_,_,e',_⟩:=O'.ns;⟨o,e'⟩;refine I.write (x:=a) (e:=dx) (by rw[e];exact True.intro) (.inr i) (λb q hb z=>(sb.2 b hb).trans z) hd ?_;refine⟨by rw[bB O.ne];exact i,?_,O.ne,O'.obj,_,O'.ns,λg=>?_,λg hg=>?_⟩
 .have:=uV f y fs;omega
 .show RelO ((jT f y fs).lookup g) (if g=f then some u else mA g);rw[uU];by_cases q:g=f
  .rw[if_pos q,if_pos q];exact p
  .rw[if_neg q,if_neg q];exact r g
 .by_cases q:g=f
  .rw[q];exact(tY f y fs).1
  .refine(tY f y fs).2 g (j g λz=>hg ?_);show(if g=f then some u else mA g)=none;rw[if_neg q];exact z
def Inv.made(I:Inv X pins σ H s):Inv X pins σ (upd (upd H s.heap.objs.size (.own (s.heap.objs.size+1))) (s.heap.objs.size+1) (.ins C s.heap.objs.size []))
  { s with heap:=(s.heap.push PySem.W.emptyDict).push (PySem.W.instObj C s.heap.objs.size) }:=by
 have f:(s.heap.push PySem.W.emptyDict).get? s.heap.objs.size=some PySem.W.emptyDict:=Qax s.heap rfl;have j:((s.heap.push PySem.W.emptyDict).push (PySem.W.instObj C s.heap.objs.size)).get? (s.heap.objs.size+1)=some (PySem.W.instObj C s.heap.objs.size):=by
  have:=Qax (s.heap.push PySem.W.emptyDict) (o:=PySem.W.instObj C s.heap.objs.size) rfl
  rwa [Qbj]at this
 have i:(s.heap.push PySem.W.emptyDict).Ns s.heap.objs.size (λ_=>none):=⟨PySem.W.emptyDict,#[],_,f,rfl,(λe he=>absurd he (by simp)),λ_=>rfl⟩;have l:=I.laid (a:=s.heap.objs.size) (o:=.own (s.heap.objs.size+1)) (h':=s.heap.push PySem.W.emptyDict) (t':=s.toks) (λb u q=>Qag _ q) (Qap _) ⟨_,f⟩;refine l.laid (a:=s.heap.objs.size+1) (o:=.ins C s.heap.objs.size []) (t':=s.toks) (λb u q=>Qag _ q) (Nat.le_of_eq (Qbj _ _)) ?_;have h:s.heap.objs.size≠s.heap.objs.size+1:=QaK (Nat.lt_succ_self _);refine⟨by rw[bB h,bJ],QaY _,h,j,λ_=>none,(Heap.Ns1.of_empty i).at λo q=>Qag _ q,λ_=>True.intro,λy hy=>absurd rfl hy⟩
def Z7X(a:attributeBase e f env (eval e env)=eval e env)
  (h:wpAny (model prog w) A (eval e env) (λo s₁=>wpAny (model prog w) A (getAttr o f true) Q E s₁) E s):wpAny (model prog w) A (eval (.Attribute e f pos) env) Q E s :=
 Attribute_any_ h (by rw[arm_eval_Attribute,a])
end
def ZaT(K:Frag)(ta:TE)(f:Str):TE:=λσ H Q=>ta σ H λx H1=>∃a C dx fs v,x=.ref a/\H1 a=some (.ins C dx fs)/\Cls K C/\NoAttr K C f/\fs.lookup f=some v/\Q v H1
def Z4d(K:Frag)(ta tv:TE)(f:Str):TS:=λD σ H=>tv σ H λy H1=>ta σ H1 λx H2=>∃a C dx fs,x=.ref a/\H2 a=some (.ins C dx fs)/\Cls K C/\NoAttr K C f/\fs.length<1000 /\
 D.nx σ (upd H2 a (.ins C dx (jT f y fs)))
section
variable {X:Cx}{o e value:Ag}{f:Str}{pos pos':Pos}{ta tv:TE}
def Z9c(he:PE X e ta)(b:attributeBase e f X.env (eval e X.env)=eval e X.env):PE X (.Attribute e f pos) (ZaT X.K ta f):=by
 intro pins s σ H Q I h;refine Z7X b (thn (he pins s σ H _ I h) λu s1 ⟨x,H1,I1,rx,a,C,dx,fs,v,ex,ea,c,n,l,q⟩=>?_);subst ex;obtain rfl:u=Value.ref a:=rx;exact Z0S I1 ea c n l λu' s2 I2 ru=>⟨v,H1,I2,ru,q⟩
def tG(b:PE X o ta)(i:PE X value tv)(hs:swapsWith value (some (.Attribute o f pos')) pos.line X.env=pure false):PS X (.Assign [.Attribute o f pos'] value pos) (Z4d X.K ta tv f):=by
 intro pins s σ H D I h;refine plainObj_wpAny_Assign_Attribute (thn (i pins s σ H _ I h) λu s1 ⟨y,H1,I1,ry,q⟩=>thn (b pins s1 σ H1 _ I1 q) λov s2 ⟨x,H2,I2,rx,a,C,dx,fs,ex,ea,c,n,l,q2⟩=>?_) hs;subst ex;obtain rfl:ov=Value.ref a:=rx;exact Z0c I2 ea c n l ry λs3 I3=>⟨σ,_,I3,q2⟩
end
section
variable {H:Hp}
inductive zB(K:Frag)(H:Hp):V->Value->Prop where
 |non:zB K H .non (.type "NoneType")
 |bl (x:Bool):zB K H (.bl x) (.type "bool")
 |int (i:Int):zB K H (.int i) (.type "int")
 |str (x:Str):zB K H (.str x) (.type "str")
 |flt (x:UInt64):zB K H (.flt x) (.type "float")
 |lst {a:Addr}{xs:List V}(e:H a=some (.lst xs)):zB K H (.ref a) (.type "list")
 |frz {a:Addr}{o:Obj}{xs:List V}(e:H a=some (.frz o (.lst xs))):zB K H (.ref a) (.type "list")
 |tup {a:Addr}{xs:List V}(e:H a=some (.tup xs)):zB K H (.ref a) (.type "tuple")
 |dK {a:Addr}{kvs:List (Key×V)}(e:H a=some (.dK kvs)):zB K H (.ref a) (.type "dict")
 |dT {a:Addr}{kvs:List (List Key×V)}(e:H a=some (.dT kvs)):zB K H (.ref a) (.type "dict")
 | ins {a C dx:Addr}{fs:List (Str × V)}(e:H a=some (.ins C dx fs)) (cl:Cls K C) (ha:PySem.W.findIn K (.ref C) "__class__" = some (some (.builtin "object.__class__")))
   (hn:PySem.W.specialIn K (.builtin "object.__class__") "__get__" = some (some (.builtin "getset_descriptor.__get__"))) (htk:PySem.W.takesIn K (.builtin "object.__class__")=some true)
   (hm:PySem.W.mroIn K C (.type "object")=some true):zB K H (.ref a) (.ref C)
end
structure Room(k:Nat)(A:Around):Prop where
 hd:A.handled=none
 dp:A.depth+3*k+5<recursionLimit
 un:A.units+16*k+200<cLine
def Room.mono(r:Room k A)(h:j<=k):Room j A:=⟨r.hd,by have:=r.dp;omega,by have:=r.un;omega⟩
theorem Room.deeper(r:Room (k+1) A)(env:Env):Room k (A.deeper env) :=
 ⟨r.hd,by have:=r.dp;show A.depth+1+3*k+5<_;omega,by have:=r.un;show A.units+3+16*k+200<_;omega⟩
def Z0G{A:Ai}{C:Af}{us:Ab Ad}{kw:Ab (Str×Ad)}:(A.under (.builtin "type.__call__" ⟨.ref C::us,kw⟩)).depth=A.depth+1:=by
 first|rfl|simp[Around.under,Code.weight,Code.isCreation,Code.isGuard,Code.isCaller,Code.frames,Code.isFrame,guardIds]
def Z0F{A:Ai}{C:Af}{us:Ab Ad}{kw:Ab (Str×Ad)}:(A.under (.builtin "type.__call__" ⟨.ref C::us,kw⟩)).units=A.units+1:=by
 first|rfl|simp[Around.under,Code.cUnits,Code.frames,Code.isFrame]
def Room.make(r:Room (k+1) A)(C:Af)(us:Ab Ad)(kw:Ab (Str×Ad)):Room k (A.under (.builtin "type.__call__" ⟨.ref C::us,kw⟩)) :=
 ⟨r.hd,by have:=r.dp;rw[Z0G];omega,by have:=r.un;rw[Z0F];omega⟩
theorem Room.depth(r:Room k A):A.depth<recursionLimit:=by have:=r.dp;omega
theorem Room.units(r:Room k A):A.units+64<cLine:=by have:=r.un;omega
def Z6c:TA:=λ_ H Q=>Q [] H
def Z3Q(ta:TE)(tr:TA):TA:=λσ H Q=>ta σ H λx H1=>tr σ H1 λxs H2=>Q (x::xs) H2
section
variable {X:Cx}{e:Ag}{es:Ab Ag}{te:TE}{t:TA}{pos:Pos}
def pa_nil:PA X [] Z6c:=λ_ _ _ _ H Q I h=>Calls.spliced_nil ⟨[],H,I,.nil,h⟩
def pa_cons(b:PE X e te)(a:PA X es t)(hs:sEa e es X.env:=by rfl):PA X (e::es) (Z3Q te t):=by
 intro pos pins s σ H Q I h;rw[hs];show wpAny _ _ (spliced ((false,eval e X.env)::backTo pos (starEach es X.env))) _ _ s;refine Calls.spliced_cons (thn (b pins s σ H _ I h) λu s1 ⟨x,H1,I1,r1,q1⟩=>?_);exact thn (a pos pins s1 σ H1 _ I1 q1) λus s2 ⟨xs,H2,I2,r2,q2⟩=>⟨x::xs,H2,I2,.cons r1 r2,q2⟩
def ZaM(t:TA):TE:=λσ H Q=>t σ H λxs H1=>xs.length<=sizeLine/\∀p,H1 p=none->Q (.ref p) (upd H1 p (.tup xs))
def ZaQ(t:TA):TE:=λσ H Q=>t σ H λxs H1=>xs.length<=sizeLine/\∀p,H1 p=none->Q (.ref p) (upd H1 p (.lst xs))
def pe_tup(h:PA X es t):PE X (.Tuple es x1 pos) (ZaM t):=by
 intro pins s σ H Q I hq;refine wpAny_Tuple_spliced (thn (h pos pins s σ H _ I hq) λus s1 ⟨xs,H1,I1,r,z,q⟩=>⟨by rw[<- r.length];exact z,?_⟩);have a:H1 s1.heap.objs.size=none:=I1.hok.fresh (Qap _);refine⟨.ref s1.heap.objs.size,upd H1 s1.heap.objs.size (.tup xs),I1.laid (t':=s1.toks) (λb u e=>Qag _ e) (Qap _) ?_,rfl,q _ a⟩;exact⟨z,us,r,⟨_,Qax _ rfl,rfl,_,rfl⟩⟩
def pe_lst(h:PA X es t):PE X (.List es pos) (ZaQ t):=by
 intro pins s σ H Q I hq;refine wpAny_List_spliced (thn (h pos pins s σ H _ I hq) λus s1 ⟨xs,H1,I1,r,z,q⟩=>⟨by rw[<- r.length];exact z,?_⟩);have a:H1 s1.heap.objs.size=none:=I1.hok.fresh (Qap _);refine⟨.ref s1.heap.objs.size,upd H1 s1.heap.objs.size (.lst xs),I1.laid (t':=s1.toks) (λb u e=>Qag _ e) (Qap _) ?_,rfl,q _ a⟩;exact⟨z,us,0,r,Qax _ rfl⟩
end
abbrev Sp:=Ab V->Hp->VK->XK->Prop
abbrev CXT:=Ab Env->Hp->Ac->XK->Ad->Ac->Prop
structure Env0(P:Program)(w:World)(K:Frag)(mg:Str->Option Value)(base:Heap)(A:Around)(outer:List Env)(s:Shared)(H:Hp):Prop where
 frames:A.frames=some outer
 mod:Mod K mg base
 bs:∀b o,base.get? b=some o->s.heap.get? b=some o/\H b=none
 bsz:base.objs.size<=s.heap.objs.size
 funs:s.heap.FunFrames base outer
 frf:∀b∈frs outer,H b=none
 hok:HOk P w H s.heap
 bare:AllBare s.gens
def CE(outer:Ab Env)(P:Aj)(w:Ak)(H:Hp)(s:Ac)(Q:VK)(u:Ad)(s':Ac):Prop :=
 ∃v H',s'.os=s.os/\AllBare s'.gens/\Un (frs outer) [] H H' s.heap s'.heap/\HOk P w H' s'.heap/\RelV v u/\Q v H'
def CR(CX:CXT)(outer:Ab Env)(P:Aj)(w:Ak)(H:Hp)(s:Ac)(Q:VK)(E:XK)(r:Result)(s':Ac):Prop :=
 match r with
 | .ok (.ret u)=>CE outer P w H s Q u s'
 | .ok _=>False
 | .error e=>CX outer H s E e s'
structure gT(P:Program)(w:World)(K:Frag)(mg:Str->Option Value)(base:Heap)(CX:CXT)(k:Nat)(f:Addr)(fd:FuncData)(ps:List Str)(sp:Sp):Prop where
 len:∀vs H Q E,sp vs H Q E->vs.length=ps.length
 run:∀(A:Ai) (outer:Ab Env) (s:Ac) (H:Hp) (args:Args) (us:Ab Ad) (vs:Ab V) (Q:VK) (E:XK),Room k A->Env0 P w K mg base A outer s H->BindsTo s fd args (ps.zip us)->Vals vs us->sp vs H Q E ->
  codeAny (model P w) A (.call (.ref f) args) (CR CX outer P w H s Q E) s
def Env0.make{P:Aj}{w:Ak}{K:Frag}{mg:Str->Aa Ad}{base:Ah}{A:Ai}{outer:Ab Env}{s:Ac}{H:Hp}(e:Env0 P w K mg base A outer s H)(C:Af)(us:Ab Ad)(kw:Ab (Str×Ad)) :
  Env0 P w K mg base (A.under (.builtin "type.__call__" ⟨.ref C::us,kw⟩)) outer s H:=⟨by first|exact e.frames|(simpa[Around.under,Code.envs,Code.isFrame,pushEnvs]using e.frames),e.mod,e.bs,e.bsz,e.funs,e.frf,e.hok,e.bare⟩
section
variable {X:Cx}{pins:Ab (Af×Obj)}{σ:St}{H:Hp}{s s':Ac}
def Inv.env0(I:Inv X pins σ H s):Env0 X.prog X.w X.K X.mg X.base X.A X.stack s H :=
 ⟨I.ok.frames,I.ok.mod,I.bs,QaE I.ok.bsz I.sz,I.stack,I.stkFree,I.hok,I.bare⟩
def Inv.after(I:Inv X pins σ H s)(h:CE X.stack X.prog X.w H s Q u s'):EP X pins σ Q u s':=by
 obtain⟨v,H',os,a,un,i,r,q⟩:=h;obtain⟨j,g,d,t,f⟩:=s';obtain rfl:f=s.os:=os;exact⟨v,H',I.call (h':=j) (g':=g) (d':=d) (t':=t) (ch:=[]) un i a (λb z=>absurd z (by simp)),r,q⟩
end
def Z9S(sp:Sp)(dvs:Ab V)(E:XK)(t:TA):TE:=λσ H Q=>t σ H λvs H1=>sp (vs++dvs) H1 Q E
def Z85(C:Af)(sp:Sp)(dvs:Ab V)(E:XK)(t:TA):TE:=λσ H Q=>t σ H λvs H1=>∀x dx,H1 x=none->H1 dx=none->dx≠x ->
 sp (.ref x::(vs++dvs)) (upd (upd H1 dx (.own x)) x (.ins C dx [])) (λv H2=>v=.non/\Q (.ref x) H2) E
def Binds(K:Frag)(fd:FuncData)(ps:Ab Str)(ds:Ab Ad):Prop :=
 ∀(s:Ac) (us:Ab Ad),K.In s.heap->(us++ds).length=ps.length->BindsTo s fd ⟨us,[]⟩ (ps.zip (us++ds))
def Binds.all{K:Frag}{fd:FuncData}{ps:Ab Str}(h:∀us:Ab Ad,us.length=ps.length->bindArgs fd ⟨us,[]⟩=pure (ps.zip us)):Binds K fd ps []:=λs us _ hl=>by
 rw[QaP]at hl ⊢;exact .of_eq (h us hl)
def qQ(CX:CXT)(X:Cx)(E:XK):Prop:=∀(pins:Ab (Af×Obj)) (σ:St) (H:Hp) (s:Ac) (e:Ad) (s':Ac),Inv X pins σ H s->CX X.stack H s E e s'->X.xe e s'
section
variable {X:Cx}{CX:CXT}{k:Nat}{f C:Af}{fd:FuncData}{ps:Ab Str}{sp:Sp}{dvs:Ab V}{ds:Ab Ad}{E:XK}{x:Str}{p pos:Pos}{e:Ag}{es:Ab Ag}{t:TA}
def Z8H(F:gT X.prog X.w X.K X.mg X.base CX k f fd ps sp)(b:Room k X.A)(i:Binds X.K fd ps ds)(hd:Vals dvs ds)(l:qQ CX X E)
  (I:Inv X pins σ H s) (r:Vals vs us) (h:sp (vs++dvs) H Q E):wpAny (model X.prog X.w) X.A (call (.ref f) us) (EP X pins σ Q) X.xe s:=by
 have a:Vals (vs++dvs) (us++ds):=r.append hd;have j:(us++ds).length=ps.length:=by rw[<- a.length];exact F.len _ _ _ _ h
 refine wpAny_call (codeAny_mono (F.run X.A X.stack s H ⟨us,[]⟩ (us++ds) (vs++dvs) Q E b I.env0 (i s us I.kIn j) a h) λr s' hq=>?_);cases r with
 |error e=>exact l pins σ H s e s' I hq
 |ok fl =>
  cases fl with
  |ret u=>exact I.after hq
  |next=>exact False.elim hq
  |brk=>exact False.elim hq
  |cont=>exact False.elim hq
def pe_call(F:gT X.prog X.w X.K X.mg X.base CX k f fd ps sp)(b:Room k X.A)(j:Gl X x)(o:X.mg x=some (.ref f))(u:keepIn X.K (.ref f)=true)(n:Binds X.K fd ps ds)(hd:Vals dvs ds)(i:qQ CX X E)
  (l:PA X (e::es) t) (a:nDb x:=by decide) (he:sEa e es X.env:=by rfl) (hpl:bTa pos es X.env:=by rfl) :
  PE X (.Call (.Name x p) (e::es) [] pos) (Z9S sp dvs E t):=by
 intro pins s σ H Q I h;refine Rh (wD I j o ?_ a);refine PySem.W.callWith_K (h₀:=X.base) I.ok.mod.kin u (thn (l pos pins s σ H _ I h) λus s1 ⟨vs,H1,I1,r,q⟩=>⟨I1.kIn,?_⟩) he hpl;exact Z8H F b n hd i I1 r q
structure Mk(K:Frag)(C f:Addr):Prop where
 makes:PySem.W.makesIn K C=true
 init:PySem.W.findIn K (.ref C) "__init__" = some (some (.ref f))
 fn:PySem.W.isFn K (.ref f)=true
 kp:keepIn K (.ref C)=true
def R8(M:Mk X.K C f)(F:gT X.prog X.w X.K X.mg X.base CX k f fd ps sp)(i:Room (k+1) X.A)(p:Binds X.K fd ps ds)(hd:Vals dvs ds)
  (j:qQ CX X E) (I:Inv X pins σ H s) (r:Vals vs us)
  (h:∀x dx,H x=none->H dx=none->dx≠x->sp (.ref x::(vs++dvs)) (upd (upd H dx (.own x)) x (.ins C dx [])) (λv H2=>v=.non/\Q (.ref x) H2) E) :
  wpAny (model X.prog X.w) X.A (call (.ref C) us) (EP X pins σ Q) X.xe s:=by
 have hq:=h (s.heap.objs.size+1) s.heap.objs.size (I.hok.fresh (Nat.le_succ _)) (I.hok.fresh (Qap _)) (QaK (Nat.lt_succ_self _));have a:=Inv.made (C:=C) I;have b:Vals (V.ref (s.heap.objs.size+1)::(vs++dvs)) (Value.ref (s.heap.objs.size+1)::(us++ds)):=.cons rfl (r.append hd);have q:(Value.ref (s.heap.objs.size+1)::us++ds).length=ps.length:=by
  have e:=b.length;rw[F.len _ _ _ _ hq]at e;exact e.symm
 refine wpAny_call (Z4Z (f:=f) I.kIn M.makes M.init (beq_iff_eq.mp M.fn) (codeAny_mono (F.run _ X.stack _ _ ⟨Value.ref (s.heap.objs.size+1)::us,[]⟩ (Value.ref (s.heap.objs.size+1)::(us++ds)) _ _ E (i.make C us [])
  (a.env0.make C us []) (p _ (Value.ref (s.heap.objs.size+1)::us) a.kIn q) b hq) λr s' hq'=>?_))
 cases r with
 |error e=>exact j pins σ _ _ e s' a hq'
 |ok fl =>
  cases fl with
  |ret u =>
   obtain⟨v,H',t,n,l,o⟩:=a.after hq';subst l;exact⟨n,⟨V.ref (s.heap.objs.size+1),H',t,rfl,o⟩⟩
  |next=>exact False.elim hq'
  |brk=>exact False.elim hq'
  |cont=>exact False.elim hq'
def pe_make(M:Mk X.K C f)(F:gT X.prog X.w X.K X.mg X.base CX k f fd ps sp)(b:Room (k+1) X.A)(j:Gl X x)(o:X.mg x=some (.ref C))(n:Binds X.K fd ps ds)(hd:Vals dvs ds)(i:qQ CX X E)
  (l:PA X (e::es) t) (a:nDb x:=by decide) (he:sEa e es X.env:=by rfl) (hpl:bTa pos es X.env:=by rfl) :
  PE X (.Call (.Name x p) (e::es) [] pos) (Z85 C sp dvs E t):=by
 intro pins s σ H Q I h;refine Rh (wD I j o ?_ a);refine PySem.W.callWith_K (h₀:=X.base) I.ok.mod.kin M.kp (thn (l pos pins s σ H _ I h) λus s1 ⟨vs,H1,I1,r,q⟩=>⟨I1.kIn,?_⟩) he hpl;exact R8 M F b n hd i I1 r q
def pe_make0(M:Mk X.K C f)(F:gT X.prog X.w X.K X.mg X.base CX k f fd ps sp)(i:Room (k+1) X.A)(b:Gl X x)(n:X.mg x=some (.ref C))(l:Binds X.K fd ps ds)(hd:Vals dvs ds)(j:qQ CX X E)
  (a:nDb x:=by decide):PE X (.Call (.Name x p) [] [] pos) (Z85 C sp dvs E Z6c):=by
 intro pins s σ H Q I h;refine Rh (wD I b n ?_ a);exact PySem.W.callWith_K0 I.kIn M.kp (R8 (us:=[]) M F i l hd j I .nil h)
end
section
variable {fd:FuncData}{ps ks:Ab Str}
structure Zbg(K:Frag)(fd:FuncData)(ps ks:List Str)(g:List Value->List Value->List Value)(gV:List V->List V->List V):Prop where
 to:∀(s:Ac) (us ws:Ab Ad),K.In s.heap->(g us ws).length=ps.length->BindsTo s fd ⟨us,ks.zip ws⟩ (ps.zip (g us ws))
 rel:∀{vs:Ab V}{us:Ab Ad}{zs:Ab V}{ws:Ab Ad},Vals vs us->Vals zs ws->Vals (gV vs zs) (g us ws)
end
structure eT(N P:List Str)(sc:Scope):Prop where
 kind:sc.kind=.function
 co:sc.isCoroutine=false
 gen:sc.isGenerator=false
 nd:N.Nodup
 pre:N.take P.length=P
 par:∀x∈P,sc.names.lookup x=some .local\/sc.names.lookup x=some .cell
 nofree:∀y∈sc.names,y.2 ≠ .free
def Rn{N P:List Str}{h:Scope}(a:h.kind=.function:=by rfl)(b:h.isCoroutine=false:=by rfl)(c:h.isGenerator=false:=by rfl)(d:N.Nodup:=by decide +kernel)(e:N.take P.length=P:=by rfl)(f:∀x∈P,h.names.lookup x=some .local\/h.names.lookup x=some .cell:=by decide +kernel)(g:∀y∈h.names,y.2 ≠ .free:=by decide +kernel):eT N P h:=⟨a,b,c,d,e,f,g⟩
theorem E6{b:Str->Aa NameKind}{x:Str}:∀{a:Ab (Str×Ad)}{m:Str->Aa Ad},(∀v,(x,v)∉a)->bindL b a m x=m x
 |[],_,_=>rfl
 |(n,v)::r,m,h=>by
  unfold bindL;rw[E6 λw hw=>h w (Qaa _ hw)];split
  .have:x≠n:=by rintro rfl;exact h v Qai
   simp[this]
  .rfl
theorem E8{b:Str->Aa NameKind}{x:Str}:∀{a:Ab (Str×Ad)}{m:Str->Aa Ad},(∀v,(x,v)∉a)->bindC b a m x=m x
 |[],_,_=>rfl
 |(n,v)::r,m,h=>by
  unfold bindC;rw[E8 λw hw=>h w (Qaa _ hw)];split
  .rfl
  .have:x≠n:=by rintro rfl;exact h v Qai
   simp[this]
theorem E7{a:Str->Aa NameKind}{x:Str}{v:Ad}:∀{P:Ab Str}{vs:Ab Ad}{i:Nat}{m:Str->Aa Ad},P.Nodup->P[i]?=some x->vs[i]?=some v->a x=some .local ->
  bindL a (P.zip vs) m x=some v
 |[],_,_,_,_,h,_,_=>by simp at h
 |_::_,[],_,_,_,_,h,_=>by simp at h
 |p::P,w::vs,0,m,nd,h1,h2,hk=>by
  simp at h1 h2;subst h1;subst h2;show bindL a ((p,w)::P.zip vs) m p=_;unfold bindL;rw[E6 λv hv=>(QaA.mp nd).1 (List.of_mem_zip hv).1,if_pos hk];simp
 |p::P,w::vs,i+1,m,nd,h1,h2,hk=>by
  show bindL a ((p,w)::P.zip vs) m x=_;unfold bindL;exact E7 (i:=i) (QaA.mp nd).2 (by simpa using h1) (by simpa using h2) hk
theorem E9{a:Str->Aa NameKind}{x:Str}{v:Ad}:∀{P:Ab Str}{vs:Ab Ad}{i:Nat}{m:Str->Aa Ad},P.Nodup->P[i]?=some x->vs[i]?=some v->a x≠some .local ->
  bindC a (P.zip vs) m x=some v
 |[],_,_,_,_,h,_,_=>by simp at h
 |_::_,[],_,_,_,_,h,_=>by simp at h
 |p::P,w::vs,0,m,nd,h1,h2,hk=>by
  simp at h1 h2;subst h1;subst h2;show bindC a ((p,w)::P.zip vs) m p=_;unfold bindC;rw[E8 λv hv=>(QaA.mp nd).1 (List.of_mem_zip hv).1,if_neg hk];simp
 |p::P,w::vs,i+1,m,nd,h1,h2,hk=>by
  show bindC a ((p,w)::P.zip vs) m x=_;unfold bindC;exact E9 (i:=i) (QaA.mp nd).2 (by simpa using h1) (by simpa using h2) hk
def start(N:Ab Str)(vs:Ab V):St:=vs.map some++List.replicate (N.length-vs.length) none
def uH(CX:CXT)(P:Aj)(w:Ak)(K:Frag)(mg:Str->Aa Ad)(base:Ah)(N:Ab Str)(qual:Str)(scope:Scope)(f:Af)(cd:Ad)(A:Ai)(outer:Ab Env)(s:Ac)(H:Hp)(E:XK):Cx where
 prog:=P
 w:=w
 K:=K
 mg:=mg
 base:=base
 A:=A.deeper (envOfC qual scope s.heap.objs.size f cd)
 N:=N
 s₀:=s
 H₀:=H
 env:=envOfC qual scope s.heap.objs.size f cd
 outer:=outer
 stack:=envOfC qual scope s.heap.objs.size f cd::outer
 ex:=[]
 calm:=true
 fn:=λ_=>true
 pn:=[]
 xe:=λe s'=>wpAny (model P w) (A.deeper (envOfC qual scope s.heap.objs.size f cd)) («leaving» (envOfC qual scope s.heap.objs.size f cd) e) (λ_ s''=>CX outer H s E e s'') (λe' s''=>CX outer H s E e' s'') s'
def Y4{a:Scope}{n:Nat}{x:Str}(h:a.names.lookup x=some .cell):∃c,(cellsFrom n a.names []).lookup x=some c:=by
 have q:=PySem.W.cellsFrom_some a.names n [] (.inl h);exact Qa5.mp q
def Z31{CX:CXT}{P:Aj}{w:Ak}{K:Frag}{mg:Str->Aa Ad}{base:Ah}{N ps:Ab Str}{qual:Str}{scope:Scope}{f:Af}{cd:Ad}{A:Ai}{outer:Ab Env}{s s1:Ac}{H:Hp}{E:XK}{us:Ab Ad}{vs:Ab V}
  (S:eT N ps scope) (hd:A.handled=none) (j:Env0 P w K mg base A outer s H) (J:vs.length=ps.length) (r:Vals vs us)
  (x:InCallC s s.heap.objs.size (bindL (envOfC qual scope s.heap.objs.size f cd).kindOf (ps.zip us) λ_=>none) (cellsFrom (s.heap.objs.size+1) scope.names []) (bindC (envOfC qual scope s.heap.objs.size f cd).kindOf (ps.zip us) λ_=>none) s1) :
  Inv (uH CX P w K mg base N qual scope f cd A outer s H E) [] (start N vs) H s1:=by
 have hpl:ps.length<=N.length:=by have:=congrArg List.length S.pre;rw[QaR]at this;omega
 obtain⟨h1,tk,rfl,F⟩:=x.done;have o:∀b:Af,b∉(uH CX P w K mg base N qual scope f cd A outer s H E).ex:=λb z=>absurd (show b∈([]:Ab Af) from z) (by simp)
 refine⟨⟨j.mod,S.kind,rfl,rfl,Qap _,λy z c h1 h2=>?_,λy l=>?_,λy c _ h=>?_,λ_=>hd,Around.frames_deeper j.frames,.inr ⟨rfl,rfl⟩,λb z=>absurd z (o b),j.bs,j.bsz,λb _ _=>o b,λb z=>absurd z (o b),j.funs,j.frf⟩,
  rfl,j.bare,Un.kept F,⟨_,x.toInCall.ns,λi y v h1 h2 h3=>?_⟩,λy c h=>⟨_,x.cell y c h⟩,j.hok.fresh (Qap _),λy c h=>?_,λp t=>absurd (show p∈([]:Ab (Af×Obj)) from t) (by simp),j.hok.kept F,?_⟩
 .exact name_of_addr x.apart (PySem.mem_of_lookup h1) (PySem.mem_of_lookup h2)
 .have l:scope.names.lookup y=some .cell\/scope.names.lookup y=some .free:=l;rcases l with l|l
  .exact Y4 l
  .exact absurd rfl (S.nofree _ (PySem.mem_of_lookup l))
 .exact Nat.le_of_lt (x.above y c (PySem.mem_of_lookup h))
 .have hi:i<vs.length:=by
   unfold start at h2;by_cases hi:i<vs.length
   .exact hi
   .rw[QaQ (by simpa using hi)]at h2;rw[Qba]at h2;split at h2<;>cases h2
  have I:vs[i]?=some v:=by
   unfold start at h2;rw[QaB (by simpa using hi),QaD]at h2;cases e:vs[i]? with
   |none=>rw[e]at h2;cases h2
   |some a=>rw[e]at h2;cases h2;rfl
  obtain⟨u,C,G⟩:=r.get I;have t:ps[i]?=some y:=by
   rw[<- S.pre,List.getElem?_take_of_lt (by omega)];exact h1
  have B:ps.Nodup:=by rw[<- S.pre];exact S.nd.sublist (List.take_sublist _ _)
  refine⟨u,G,?_⟩;rcases S.par y (QaT t)with k|k
  .exact .inl ⟨k,E7 B t C k⟩
  .obtain⟨c,e⟩:=Y4 (n:=s.heap.objs.size+1) k;refine .inr ⟨.inl k,c,e,?_⟩;have q:=x.cell y c e;rw[E9 B t C (by show scope.names.lookup y≠_;rw[k];decide)]at q;exact q
 .exact j.hok.fresh (Nat.le_of_lt (x.above y c (PySem.mem_of_lookup h)))
 .unfold start;show _=N.length;rw[Qav,Qab,List.length_replicate];omega
def X4{CX:CXT}{P:Aj}{w:Ak}{K:Frag}{mg:Str->Aa Ad}{base:Ah}{k:Nat}{f:Af}{name qual:Str}{h:Arguments}{body:Ab Stmt}{scope:Scope}{F kV p O a ct R:Ad}{an Y:Aa Af}
  {G:Ae (Aa Ad)}{N ps:Ab Str}{sp:Sp}(U:K.lookup f=some ⟨R,Y,.func (fnOf name qual h body scope F kV p O an a ct),G⟩) (C:codeIn K a qual=true) (S:eT N ps scope)
  (len:∀vs H Q E,sp vs H Q E->vs.length=ps.length)
  (j:∀ (A:Ai) (outer:Ab Env) (s:Ac) (H:Hp) (vs:Ab V) (Q:VK) (E:XK),Room k (A.deeper (envOfC qual scope s.heap.objs.size f a))->sp vs H Q E ->
   ∃t,PSs (uH CX P w K mg base N qual scope f a A outer s H E) body t/\t { nx:=λ_ H'=>Q .non H',rt:=Q } (start N vs) H) :
  gT P w K mg base CX (k+1) f (fnOf name qual h body scope F kV p O an a ct) ps sp:=by
 refine⟨len,λA outer s H args us vs Q E hr e0 hb r hsp=>?_⟩;have X:=len _ _ _ _ hsp;have L:K.In s.heap:=e0.mod.kin.keeps λb o e=>(e0.bs b o e).1;have M:s.heap.NoLimit:=e0.mod.nolimit.keeps λb o e=>(e0.bs b o e).1;have i:∀y∈ps.zip us,scope.names.lookup y.1=some .local\/(scope.names.lookup y.1=some .cell/\((cellsFrom (s.heap.objs.size+1) scope.names []).lookup y.1).isSome=true):=λ⟨n,v⟩ hy=>by
  rcases S.par n (List.of_mem_zip hy).1 with q|q
  .exact .inl q
  .exact .inr ⟨q,PySem.W.cellsFrom_some _ _ _ (.inl q)⟩
 refine codeAny_call_function hr.depth (L _ _ U) rfl S.co S.gen rfl (PySem.W.codeRec_of L C) (hb _ _ _ _ ?_);refine wpAny_newFunctionEnv_cells S.kind i λenv he s1 x=>?_;subst he;refine⟨M.keeps x.toInCall.keep,codeAny_func ?_⟩;obtain⟨t,T,hq⟩:=j A outer s H vs Q E (hr.deeper _) hsp;have I:Inv (uH CX P w K mg base N qual scope f a A outer s H E) [] (start N vs) H s1:=Z31 S hr.hd e0 X r x;refine Rc (T [] s1 (start N vs) H _ I hq) (λfl s' hs=>?_) λe s' hs=>hs;have l:∀{σ':St}{H':Hp}{v:V}{u:Ad},Inv (uH CX P w K mg base N qual scope f a A outer s H E) [] σ' H' s'->RelV v u->Q v H'->CE outer P w H s Q u s' :=
  λ{σ' H' v u} J B q=>⟨v,H',J.os,J.bare,J.base,J.hok,B,q⟩
 cases fl with
 |ret u =>
  obtain⟨v,σ',H',J,B,q⟩:=hs;exact l J B q
 |next =>
  obtain⟨σ',H',J,q⟩:=hs;exact l (v:=V.non) (u:=Value.none) J rfl q
 |brk =>
  obtain⟨_,_,_,q⟩:=hs;exact False.elim q
 |cont =>
  obtain⟨_,_,_,q⟩:=hs;exact False.elim q
section
variable {X:Cx}{x:Str}{p pos:Pos}{e:Ag}{es:Ab Ag}{t:TA}{id T:String}{r:Ab V->Hp->VK->Prop}
def tCB(r:Ab V->Hp->VK->Prop)(t:TA):TE:=λσ H Q=>t σ H λvs H1=>r vs H1 Q
def pe_callB(hc:CallR X (.builtin id) r)(b:Gl X x)(j:X.mg x=none)(l:bootBuiltins x=some (.builtin id))(f:PA X (e::es) t)(i:x ≠ "__name__":=by decide)(a:nDb x:=by decide)
  (he:sEa e es X.env:=by rfl) (hpl:bTa pos es X.env:=by rfl):PE X (.Call (.Name x p) (e::es) [] pos) (tCB r t):=by
 intro pins s σ H Q I h;refine Rh (tX I b j l ?_ i a);exact PyProof.Rows.callWith_builtin1 (thn (f pos pins s σ H _ I h) λus s1 ⟨vs,H1,I1,r1,q1⟩=>hc pins s1 σ H1 vs us Q I1 r1 q1) he hpl
def pe_callTy(hc:CallR X (.type T) r)(b:Gl X x)(j:X.mg x=none)(l:bootBuiltins x=some (.type T))(f:PA X (e::es) t)(i:x ≠ "__name__":=by decide)(a:nDb x:=by decide)
  (he:sEa e es X.env:=by rfl) (hpl:bTa pos es X.env:=by rfl):PE X (.Call (.Name x p) (e::es) [] pos) (tCB r t):=by
 intro pins s σ H Q I h;refine Rh (tX I b j l ?_ i a);exact PyProof.Rows.callWith_type1 (thn (f pos pins s σ H _ I h) λus s1 ⟨vs,H1,I1,r1,q1⟩=>hc pins s1 σ H1 vs us Q I1 r1 q1) he hpl
end
end L2
namespace HT
open PySem PyProof.Rows
section
variable {prog:Aj}{w:Ak}{A:Ai}{E:Ad->Ac->Prop}{s:Ac}
def sIx(n d:Nat):Aa Int->Nat
 |none=>d
 |some v=>if v<0 then(v+(n:Int)).toNat else min v.toNat n
def sIx_none(n d:Nat):sIx n d none=d:=rfl
def sIx_nat(n d k:Nat):sIx n d (some (k:Int))=min k n:=by
 show(if (k:Int)<0 then((k:Int)+(n:Int)).toNat else min (k:Int).toNat n)=min k n;rw[if_neg (by omega),QaJ]
def Z8G(n d:Nat)(hd:d<=n)(o:Aa Int):sIx n d o<=n:=by
 cases o with
 |none=>exact hd
 |some v =>
  show(if v<0 then(v+(n:Int)).toNat else min v.toNat n)<=n;by_cases a:v<0
  .rw[if_pos a];omega
  .rw[if_neg a];exact Nat.min_le_right _ _
def Z1Z(v:Int)(n d:Nat):(if v<0 then max (v+(n:Int)) 0 else min v (n:Int))=((sIx n d (some v):Nat):Int):=by
 show(if v<0 then max (v+(n:Int)) 0 else min v (n:Int))=(((if v<0 then(v+(n:Int)).toNat else min v.toNat n):Nat):Int);by_cases a:v<0
 .simp only[if_pos a];omega
 .simp only[if_neg a];omega
def Z1a(lo hi:Aa Int)(n:Nat):Builtin.Slice.sliceAdjust lo hi 1 (n:Int)=(((sIx n 0 lo:Nat):Int),((sIx n n hi:Nat):Int)):=by
 have h1:¬((1:Int)<0):=by omega
 unfold Builtin.Slice.sliceAdjust;simp only[h1,Rm];refine Prod.ext ?_ ?_
 .cases lo with
  |none=>rfl
  |some v=>exact Z1Z v n 0
 .cases hi with
  |none=>rfl
  |some v=>exact Z1Z v n n
def Z0v(i j:Nat):Builtin.Slice.slicePlaces (i:Int) (j:Int) 1=j-i:=by
 unfold Builtin.Slice.slicePlaces;have h1:(1:Int) > 0:=by omega
 simp only[h1,Rl,Int.ediv_one];split<;>omega
def wR(p:IsPart v o)(h:Q o s):wpAny (model prog w) A (Builtin.Slice.slicePartIndex v) Q E s:=by
 cases p with
 |none=>exact slicePart_none h
 |int i t=>exact slicePart_int h
theorem lX{sl:Af}{vl vu:Ad}{lo hi:Aa Int}{n:Nat}{Q:Int×Int×Nat->Ac->Prop}(hs:s.heap.IsSliceOf sl vl vu .none)(pl:IsPart vl lo)(pu:IsPart vu hi)
  (h:Q (((sIx n 0 lo:Nat):Int),1,sIx n n hi-sIx n 0 lo) s):wpAny (model prog w) A (Builtin.Slice.sliceApplied (.ref sl) (pure (n:Int))) Q E s:=by
 obtain⟨os,hos,hcs,hds⟩:=id hs;unfold Builtin.Slice.sliceApplied Builtin.Slice.sliceFields;refine Ra (Ra (wpAny_field hos hds (x:=vl) rfl (Ra (wpAny_field hos hds (x:=vu) rfl (Ra (wpAny_field hos hds (x:=.none) rfl (Rb ?_)))))));refine Ra (slicePart_none ?_);show wpAny _ _ (if ((1:Int)==0)=true then _ else _) _ _ s;rw[if_neg (by decide)];refine Ra (wR pl (Ra (wR pu (Ra (Rb ?_)))));show wpAny _ _ (match Builtin.Slice.sliceAdjust lo hi 1 (n:Int) with|(lo,hi)=>pure (lo,(1:Int),Builtin.Slice.slicePlaces lo hi 1)) _ _ s
 rw[Z1a lo hi n];show wpAny _ _ (pure (((sIx n 0 lo:Nat):Int),(1:Int),Builtin.Slice.slicePlaces ((sIx n 0 lo:Nat):Int) ((sIx n n hi:Nat):Int) 1)) _ _ s;rw[Z0v];exact Rb h
def Z4F(xs:Ae Ad)(i k:Nat):((List.range k).filterMap λ(m:Nat)=>xs[((i:Int)+(m:Int)*1).toNat]?).toArray=((xs.toList.drop i).take k).toArray:=by
 have e:(λ(m:Nat)=>xs[((i:Int)+(m:Int)*1).toNat]?)=λm=>xs[i+m]?:=by
  funext m;have:((i:Int)+(m:Int)*1).toNat=i+m:=by omega
  rw[this]
 rw[e];have:=pick_run xs i k;rw[List.filterMap_map]at this;have a:((λx=>xs[x]?) ∘ λx=>i+x)=λm=>xs[i+m]?:=rfl;rw[a]at this;rw[this]
def getItem_tuple_cut{t i:Af}{a:Ae Ad}{n j:Ad}{lo hi:Aa Int}{Q:Ad->Ac->Prop}(f:IsTup s.heap t a)(hs:s.heap.IsSliceOf i n j .none)(pl:IsPart n lo)(u:IsPart j hi)
  (hw:¬(sIx a.size 0 lo=0/\sIx a.size a.size hi=a.size))
  (h:Q (.ref s.heap.objs.size) { s with heap:=s.heap.push { cls:=.type "tuple",data:=.seq ((a.toList.drop (sIx a.size 0 lo)).take (sIx a.size a.size hi-sIx a.size 0 lo)).toArray } })
  (x:a.size<=sizeLine):wpAny (model prog w) A (getItem (.ref t) (.ref i)) Q E s:=by
 have b:sizeOk (.seq ((a.toList.drop (sIx a.size 0 lo)).take (sIx a.size a.size hi-sIx a.size 0 lo)).toArray):=by
  show((a.toList.drop (sIx a.size 0 lo)).take (sIx a.size a.size hi-sIx a.size 0 lo)).toArray.size<=sizeLine;rw[Qao,QaR,List.length_drop,Array.length_toList];omega
 have y:sIx a.size a.size hi<=a.size:=Z8G _ _ (Qap _) hi;obtain⟨os,o,r,v⟩:=id hs;have p:s.TypeIs (.ref i) "slice":=⟨os,o,r⟩;unfold getItem
 try with_reducible refine Rf ?_
 first|refine Ra (Rb ?_)|skip
 refine Ra (wpAny_sequenceKey f.typeIs (by decide) ?_);refine Ra (wpAny_callSpecial?_slot (name:=Str.ofString "__getitem__") f.typeIs PyProof.Rows.slot_tuple_getitem
  (Rg PyProof.Rows.slot_tuple_getitem f.typeIs entry_tuple_getitem ?_ (args_tuple_getitem _ _)))
 show wpAny _ _ (Builtin.Tuple.tupleItemsOf (.ref t) >>= _) _ _ s;refine Ra (tupleItemsOf_ f ?_);refine Ra (wpAny_typeOf p ?_);rw[if_pos (by decide)];refine Ra (lX hs pl u ?_);have l:¬((((sIx a.size 0 lo:Nat):Int)==0&&(1:Int)==1&&(sIx a.size a.size hi-sIx a.size 0 lo)==a.size)=true):=by
  intro q;rw[Qam,Qam]at q;have B:((sIx a.size 0 lo:Nat):Int)=0:=eq_of_beq q.1.1;have C:sIx a.size a.size hi-sIx a.size 0 lo=a.size:=eq_of_beq q.2;exact hw ⟨by omega,by omega⟩
 show wpAny _ _ (if (((sIx a.size 0 lo:Nat):Int)==0&&(1:Int)==1&&(sIx a.size a.size hi-sIx a.size 0 lo)==a.size)=true then _ else _) _ _ s;rw[if_neg l,Z4F]
 first
  |exact Ra (m:=Builtin.Tuple.tupleExact _) (Re (Rb ⟨_,rfl,Rb h⟩) b)
  |exact Ra (m:=Builtin.Tuple.tupleExact _) (Re (Ra (Rb (Rb ⟨_,rfl,Rb h⟩))) b)
  |exact Ra (Ra (m:=Builtin.Tuple.tupleExact _) (Re (Rb (Rb ⟨_,rfl,Rb h⟩)) b))
  |exact Ra (Ra (m:=Builtin.Tuple.tupleExact _) (Re (Rb ⟨_,rfl,Rb h⟩) b))
end
end HT
namespace L2
open PySem PySem.Spec PyProof.Rows
abbrev TO:=St->Hp->(Aa Int->Hp->Prop)->Prop
def PO(X:Cx)(e:Aa Ag)(t:TO):Prop :=
 ∀(pins:Ab (Af×Obj)) (s:Ac) (σ:St) (H:Hp) (Q:Aa Int->Hp->Prop),Inv X pins σ H s->t σ H Q ->
  wpAny (model X.prog X.w) X.A (evalPart e X.env) (λu s'=>∃o H',Inv X pins σ H' s'/\IsPart u o/\Q o H') X.xe s
def Z6b:TO:=λ_ H Q=>Q none H
def Z9N(t:TE):TO:=λσ H Q=>t σ H λx H1=>∃i,x=.int i/\Q (some i) H1
section
variable {X:Cx}{e:Ag}{te:TE}{lo hi:Aa Ag}{tl th:TO}{pos p2:Pos}
def Z74:PO X none Z6b:=by
 intro pins s σ H Q I h;rw[evalPart_none];exact Rb ⟨none,H,I,.none,h⟩
def Z73(h:PE X e te):PO X (some e) (Z9N te):=by
 intro pins s σ H Q I hw;rw[evalPart_some];refine thn (h pins s σ H _ I hw) λu s1 ⟨x,H1,I1,r1,q1⟩=>?_;obtain⟨i,rfl,q⟩:=q1;obtain⟨t,rfl⟩:=r1;exact⟨some i,H1,I1,.int i t,q⟩
def SlR(X:Cx)(r:V->Aa Int->Aa Int->Hp->VK->Prop):Prop :=
 ∀(pins:Ab (Af×Obj)) (s:Ac) (σ:St) (H:Hp) (x:V) (v vl vu:Ad) (lo hi:Aa Int) (sl:Af) (Q:VK),Inv X pins σ H s->RelV x v->s.heap.IsSliceOf sl vl vu .none->IsPart vl lo->IsPart vu hi->r x lo hi H Q ->
  ∃T id,typeLookup (.type T) "__getitem__" = pure (some (.builtin id))/\s.TypeIs v T/\wpAny (model X.prog X.w) X.A (getItem v (.ref sl)) (EP X pins σ Q) X.xe s
def SlR.or(h:SlR X r)(h':SlR X r'):SlR X (λx lo hi H Q=>r x lo hi H Q\/r' x lo hi H Q):=by
 intro pins s σ H x v j a lo hi b Q I i hs pl f q;rcases q with q|q
 .exact h pins s σ H x v j a lo hi b Q I i hs pl f q
 .exact h' pins s σ H x v j a lo hi b Q I i hs pl f q
def tSl(r:V->Aa Int->Aa Int->Hp->VK->Prop)(te:TE)(tl th:TO):TE:=λσ H Q=>te σ H λx H1=>tl σ H1 λl H2=>th σ H2 λu H3=>r x l u H3 Q
def pe_slice(j:SlR X r)(he:PE X e te)(p:PO X lo tl)(a:PO X hi th):PE X (.Subscript e (.Slice lo hi none p2) pos) (tSl r te tl th):=by
 intro pins s σ H Q I h;refine Subscript_ (thn (he pins s σ H _ I h) λv s1 ⟨x,H1,I1,r1,q1⟩=>?_);refine wpAny_Slice (thn (p pins s1 σ H1 _ I1 q1) λvl s2 ⟨l,H2,I2,pl,q2⟩=>thn (a pins s2 σ H2 _ I2 q2) λvu s3 ⟨u,H3,I3,pu,q3⟩=>?_);rw[evalPart_none];refine Rb ?_;have o:Inv X pins σ H3 { s3 with heap:=s3.heap.push { cls:=.type "slice",data:=.fields #[vl,vu,.none] } }:=I3.kept (t':=s3.toks) λb ob q=>Qag _ q;obtain⟨T,id,i,n,f⟩:=j pins { s3 with heap:=s3.heap.push { cls:=.type "slice",data:=.fields #[vl,vu,.none] } } σ H3 x v vl vu l u s3.heap.objs.size Q o r1 (Heap.IsSliceOf.new ..) pl pu q3;show wpAny (model X.prog X.w) X.A (subscriptTail e (.Slice lo hi none p2) v (.ref s3.heap.objs.size)) (EP X pins σ Q) X.xe { s3 with heap:=s3.heap.push { cls:=.type "slice",data:=.fields #[vl,vu,.none] } };exact tail_any (ops:=[.ref s3.heap.objs.size,v]) n i f (by with_unfolding_all rfl)
def Y1(xs:Ab V)(lo hi:Aa Int):Ab V:=(xs.drop (HT.sIx xs.length 0 lo)).take (HT.sIx xs.length xs.length hi-HT.sIx xs.length 0 lo)
def vB(xs:Ab V)(lo hi:Aa Int):(Y1 xs lo hi).length<=xs.length:=by
 unfold Y1;rw[QaR,List.length_drop];omega
def Zb2(K:Frag):V->Aa Int->Aa Int->Hp->VK->Prop:=λx lo hi H Q=>∃a xs,x=.ref a/\SqT K H a xs /\
 ¬(HT.sIx xs.length 0 lo=0/\HT.sIx xs.length xs.length hi=xs.length)/\∀p,H p=none->Q (.ref p) (upd H p (.tup (Y1 xs lo hi)))
def Z3X:SlR X (Zb2 X.K):=by
 intro pins s σ H x v w t lo hi u Q I n hs pl l h;obtain⟨a,xs,rfl,p,hw,q⟩:=h;cases n;obtain⟨its,r,j,i⟩:=I.tuple p;have f:its.toArray.size=xs.length:=by rw[Qao];exact r.length.symm
 refine⟨"tuple",_,PyProof.Rows.slot_tuple_getitem.lookup,j.typeIs,?_⟩;refine HT.getItem_tuple_cut j hs pl l (by rw[f];exact hw) ?_ (by rw[f];exact i);rw[f];refine⟨.ref s.heap.objs.size,_,I.laid (t':=s.toks) (o:=.tup (Y1 xs lo hi)) (λb ob q=>Qag _ q) (Qap _) ?_,rfl,q _ (I.hok.fresh (Qap _))⟩;exact⟨QaE (vB xs lo hi) i,_,(r.drop (HT.sIx xs.length 0 lo)).take (HT.sIx xs.length xs.length hi-HT.sIx xs.length 0 lo),IsTup.new _ _⟩
end
def ixN(n:Nat)(i:Int):Aa Nat:=if 0<=i then(if i<n then some i.toNat else none) else if -(n:Int)<=i then some (i+n).toNat else none
def atI{α:Type}(xs:Ab α)(i:Int):Aa α:=(ixN xs.length i).bind λj=>xs[j]?
def Z1O(h:ixN n i=some j):seqIndex? i n=some j/\j<n /\ -(n:Int)<=i/\i<n:=by
 unfold ixN at h;by_cases a:0<=i
 .rw[if_pos a]at h;by_cases h1:i<n
  .rw[if_pos h1]at h;have e:i.toNat=j:=QaG h;exact⟨by rw[seqIndex_of a h1,e],by omega,by omega,h1⟩
  .rw[if_neg h1]at h;cases h
 .rw[if_neg a]at h;by_cases h1:-(n:Int)<=i
  .rw[if_pos h1]at h;have e:(i+n).toNat=j:=QaG h;exact⟨by rw[seqIndex_neg (by omega) h1,e],by omega,h1,by omega⟩
  .rw[if_neg h1]at h;cases h
def P3(h:atI xs i=some v):∃j,seqIndex? i xs.length=some j/\xs[j]?=some v/\j<xs.length /\ -(xs.length:Int)<=i/\i<xs.length:=by
 unfold atI at h;cases e:ixN xs.length i with
 |none=>rw[e]at h;cases h
 |some j =>
  rw[e]at h;obtain⟨h1,h2,h3,a⟩:=Z1O e;exact⟨j,h1,h,h2,h3,a⟩
def lM{α:Type}{xs:Ab α}{j:Nat}{v:α}(h:xs[j]?=some v):atI xs (j:Int)=some v:=by
 have a:j<xs.length:=(Qac.mp h).1;have e:ixN xs.length (j:Int)=some j:=by
  unfold ixN;rw[if_pos (by omega),if_pos (by omega)];simp
 unfold atI;rw[e];exact h
def Z5(xs:Ab α)(v:α):atI (xs++[v]) (-1)=some v:=by
 have a:(xs++[v]).length=xs.length+1:=by simp
 have e:ixN (xs++[v]).length (-1)=some xs.length:=by
  unfold ixN;rw[a,if_neg (by decide),if_pos (by omega)];congr 1;omega
 unfold atI;rw[e];show(xs++[v])[xs.length]?=some v;simp
def wE(b:Ag):Prop:=∀o i,subscripted b false o i=operate [o,i] (getItem o i)
def IxR(X:Cx)(r:R2):Prop :=
 ∀(value slice:Ag) (pins:Ab (Af×Obj)) (s:Ac) (σ:St) (H:Hp) (x y:V) (v u:Ad) (Q:VK),Inv X pins σ H s->RelV x v->RelV y u->r x y H Q ->
  subscripted slice false v u=operate [v,u] (getItem v u)->wpAny (model X.prog X.w) X.A (subscriptTail value slice v u) (EP X pins σ Q) X.xe s
def MtR(X:Cx)(id:String)(r:V->Ab V->Hp->VK->Prop):Prop :=
 ∀(pins:Ab (Af×Obj)) (s:Ac) (σ:St) (H:Hp) (x:V) (xs:Ab V) (v:Ad) (us:Ab Ad) (Q:VK),Inv X pins σ H s->RelV x v->Vals xs us->r x xs H Q ->
  wpAny (model X.prog X.w) X.A (call (.builtin id) (v::us)) (EP X pins σ Q) X.xe s
section
variable {X:Cx}{a b:Ag}{ta tb:TE}{pos:Pos}
def IxR.or(h:IxR X r)(h':IxR X r'):IxR X (λx y H Q=>r x y H Q\/r' x y H Q):=by
 intro value a pins s σ H x y v u Q I b f q hs;rcases q with q|q
 .exact h value a pins s σ H x y v u Q I b f q hs
 .exact h' value a pins s σ H x y v u Q I b f q hs
def Z4J(f:IxR X r)(i:PE X a ta)(j:PE X b tb)(hs:wE b):PE X (.Subscript a b pos) (tOp r ta tb):=by
 intro pins s σ H Q I h;exact Subscript_ (Z9B i j I h λv u s2 x y H2 I2 rx ry q=>f a b pins s2 σ H2 x y v u Q I2 rx ry q (hs _ _))
def Za5(K:Frag):R2:=λx y H Q=>∃p xs i v,x=.ref p/\y=.int i/\SqL K H p xs/\atI xs i=some v/\Q v H
def Za3(K:Frag):R2:=λx y H Q=>∃p xs i v,x=.ref p/\y=.int i/\SqT K H p xs/\atI xs i=some v/\Q v H
def Za4:R2:=λx y H Q=>∃z i c,x=.str z/\y=.int i/\z.length<=sizeLine/\atI z.cps.toList i=some c/\Q (.str ⟨#[c]⟩) H
def ix_list:IxR X (Za5 X.K):=by
 intro value o pins s σ H x y v u Q I E B h hs;obtain⟨p,xs,i,z,rfl,rfl,hq,he,q⟩:=h;cases E;obtain⟨t,rfl⟩:=B;obtain⟨its,r,pl,J⟩:=I.list hq;obtain⟨j,h1,h2,h3,F,A⟩:=P3 he;obtain⟨w,l,n⟩:=r.get h2;have C:=r.length;have G:=tS;have a:EP X pins σ Q w s:=⟨z,H,I,n,q⟩;by_cases f:0<=i
 .have b:i.toNat=j:=by
   rw[seqIndex_of f A]at h1;exact QaG h1
  exact item_listR pl.isList f (by omega) (by rw[b];simpa using l) a hs
 .have b:(i+(its.toArray.size:Int)).toNat=j:=by
   rw[seqIndex_neg (by omega) F]at h1;rw[Qao,<- C];exact QaG h1
  exact subscriptTail_builtinR (x:=w) pl.isList.typeIs slot_list_getitem.lookup
   (wpAny_getItem_list_neg (Q:=λr s'=>r=w/\EP X pins σ Q r s') pl.isList (by omega) (by rw[Qao]<;>omega) (by omega) (by rw[b];simpa using l) ⟨rfl,a⟩) hs
def ix_tup:IxR X (Za3 X.K):=by
 intro value f pins s σ H x y v u Q I A n h hs;obtain⟨p,xs,i,z,rfl,rfl,hq,he,q⟩:=h;cases A;obtain⟨t,rfl⟩:=n;obtain⟨its,r,pl,E⟩:=I.tuple hq;obtain⟨j,h1,h2,h3,F,C⟩:=P3 he;obtain⟨w,l,b⟩:=r.get h2;have o:=r.length;have B:=tS;have a:EP X pins σ Q w s:=⟨z,H,I,b,q⟩;exact subscriptTail_builtinR (x:=w) pl.typeIs slot_tuple_getitem.lookup
  (getItem_tuple (j:=j) (Q:=λr s'=>r=w/\EP X pins σ Q r s') pl (by omega) (by omega) (by rw[Qao,<- o];exact h1) (by simpa using l) ⟨rfl,a⟩) hs
def Z9p:IxR X Za4:=by
 intro value a pins s σ H x y v u Q I b f h hs;obtain⟨z,i,c,rfl,rfl,A,he,q⟩:=h;obtain⟨t,rfl⟩:=b;obtain⟨t',rfl⟩:=f;obtain⟨j,h1,h2,h3,n,l⟩:=P3 he;have p:z.cps.toList.length=z.length:=by simp[Str.length]
 rw[p]at h1 n l;have w:=tS;exact tail_any (typeIs_str s z t) slot_str_getitem.lookup (getItem_str (c:=c) (by
  have o:decide (i < -(2^63:Int))=false:=Ri (by omega);have r:decide (i ≥ 2^63)=false:=Ri (by omega);rw[o,r,Bool.or_false]) (by rw[h1];simpa using h2) ⟨.str ⟨#[c]⟩,H,I.tok _,⟨_,rfl⟩,q⟩) hs
def rIx(K:Frag):R2:=λx y H Q=>Za5 K x y H Q\/Za3 K x y H Q\/Za4 x y H Q
def Z0L:IxR X (rIx X.K):=ix_list.or (ix_tup.or Z9p)
def Z0E(its:Ab Ad)(n j:Nat)(u:Ad):Obj.mapSeq (·.setIfInBounds j u) { cls:=.type "list",data:=.seq its.toArray n }={ cls:=.type "list",data:=.seq (its.set j u).toArray n }:=by
 simp[Obj.mapSeq]
theorem Inv.lst(I:Inv X pins σ H s)(h:H p=some (.lst xs)) :
  ∃(its:Ab Ad) (n:Nat),Vals xs its/\s.heap.get? p=some { cls:=.type "list",data:=.seq its.toArray n }/\xs.length<=sizeLine:=by
 obtain⟨z,its,n,r,e⟩:=I.hok p _ h;exact⟨its,n,r,e,z⟩
def Inv.lstUpd{pins:Ab (Af×Obj)}{σ:St}{H:Hp}{s:Ac}{p:Af}{xs ys:Ab V}{its its':Ab Ad}{n a:Nat}{f:Obj->Obj}(I:Inv X pins σ H s)(h:H p=some (.lst xs))
  (l:s.heap.get? p=some { cls:=.type "list",data:=.seq its.toArray n }) (i:f { cls:=.type "list",data:=.seq its.toArray n }={ cls:=.type "list",data:=.seq its'.toArray a }) (r:Vals ys its') (j:ys.length<=sizeLine) (t:Nat) :
  Inv X pins σ (upd H p (.lst ys)) { s with heap:=s.heap.update p f,toks:=t }:=by
 have e:(s.heap.update p f).get? p=some { cls:=.type "list",data:=.seq its'.toArray a }:=by
  rw[Heap.get?_update_self f l (by rw[i]<;>rfl),i]
 refine I.write (x:=p) (e:=p) (by rw[h];trivial) (.inl rfl) (λb u hb q=>(Heap.get?_update_other _ _ (Ne.symm hb)).trans q) ⟨_,e⟩ ?_;exact⟨j,its',a,r,e⟩
def Z8d:V->V->V->Hp->(Hp->Prop)->Prop:=λo i v H Q=>∃p xs k j,o=.ref p/\i=.int k/\H p=some (.lst xs)/\ixN xs.length k=some j/\Q (upd H p (.lst (xs.set j v)))
def Z40:ZaF X Z8d:=by
 intro pins s σ H o i v J K u Q I B F E h;obtain⟨p,xs,k,j,rfl,rfl,y,A,q⟩:=h;cases B;obtain⟨t,rfl⟩:=F;obtain⟨its,n,r,f,C⟩:=I.lst y;obtain⟨h1,h2,h3,x⟩:=Z1O A;have b:=r.length;have G:=tS;have w:Inv X pins σ (upd H p (.lst (xs.set j v))) { s with heap:=s.heap.update p (Obj.mapSeq (·.setIfInBounds j u)) } :=
  I.lstUpd y f (Z0E its n j u) (r.set E j) (by rw[List.length_set];exact C) s.toks
 by_cases l:0<=k
 .have a:k.toNat=j:=by
   rw[seqIndex_of l x]at h1;exact QaG h1
  exact PySem.W.ki_setAt f l (by omega) (by rw[Qao,<- b];exact x) (by rw[a];exact⟨_,w,q⟩)
 .have a:(k+(its.toArray.size:Int)).toNat=j:=by
   rw[seqIndex_neg (by omega) h3]at h1;rw[Qao,<- b];exact QaG h1
  exact PySem.W.ki_setBack f (by omega) (by rw[Qao,<- b];exact h3) (by omega) (by rw[a];exact⟨_,w,q⟩)
def G1(lo hi:Aa Int)(n:Nat):(sliceBounds lo hi none n).1=((HT.sIx n 0 lo:Nat):Int)/\(sliceBounds lo hi none n).2.1=((HT.sIx n n hi:Nat):Int)/\(sliceBounds lo hi none n).2.2=1:=by
 refine⟨?_,?_,rfl⟩
 .cases lo with
  |none=>simp[sliceBounds,HT.sIx]
  |some i =>
   simp only[sliceBounds,HT.sIx,Option.getD_none,show(1:Int) > 0 by decide,Rl];by_cases h:i<0
   .simp only[h,Rl]<;>omega
   .simp only[h,Rm]<;>omega
 .cases hi with
  |none=>simp[sliceBounds,HT.sIx]
  |some i =>
   simp only[sliceBounds,HT.sIx,Option.getD_none,show(1:Int) > 0 by decide,Rl];by_cases h:i<0
   .simp only[h,Rl]<;>omega
   .simp only[h,Rm]<;>omega
def zG(its:Ab Ad)(lo hi:Aa Int):slicePick its.toArray lo hi none=((its.drop (HT.sIx its.length 0 lo)).take (HT.sIx its.length its.length hi-HT.sIx its.length 0 lo)).toArray:=by
 obtain⟨h1,h2,h3⟩:=G1 lo hi its.toArray.size;unfold slicePick;rw[h1,h2,h3];simp only[sliceRange_one,pick_run,Qao]<;>rfl
def Zb3(K:Frag):V->Aa Int->Aa Int->Hp->VK->Prop:=λx lo hi H Q=>∃a xs,x=.ref a/\SqL K H a xs/\∀p,H p=none->Q (.ref p) (upd H p (.lst (Y1 xs lo hi)))
def Z6j:SlR X (Zb3 X.K):=by
 intro pins s σ H x v w t lo hi u Q I l hs pl j h;obtain⟨a,xs,rfl,p,q⟩:=h;cases l;obtain⟨its,r,i,n⟩:=I.list p;have f:=r.length;refine⟨"list",_,slot_list_getitem.lookup,i.isList.typeIs,?_⟩;refine wpAny_getItem_list_slice i.isList hs pl j .none (by simp) ?_ (by rw[Qao]<;>omega);rw[zG,<- f];refine⟨.ref s.heap.objs.size,_,I.laid (t':=s.toks) (o:=.lst (Y1 xs lo hi)) (λb ob q=>Qag _ q) (Qap _) ?_,rfl,q _ (I.hok.fresh (Qap _))⟩;exact⟨QaE (vB xs lo hi) n,_,0,(r.drop (HT.sIx xs.length 0 lo)).take (HT.sIx xs.length xs.length hi-HT.sIx xs.length 0 lo),Qax _ rfl⟩
def call_len_seq:CallR X (.builtin "len") (λxs H Q=>∃p ys,xs=[.ref p]/\(SqL X.K H p ys\/SqT X.K H p ys)/\Q (.int ys.length) H):=by
 intro pins s σ H xs us Q I r h;obtain⟨p,ys,rfl,hq,q⟩:=h;obtain⟨u,rfl,f⟩:=pN r;cases f;have j:=tS;rcases hq with hq|hq
 .obtain⟨its,b,pl,i⟩:=I.list hq;have a:=b.length;exact Calls.call_len_list pl.isList (by simp only[Qao]<;>omega) ⟨.int ys.length,H,I.tok _,⟨s.toks+1,by rw[Qao,a]⟩,q⟩
 .obtain⟨its,b,pl,i⟩:=I.tuple hq;have a:=b.length;exact len_tuple pl (by simp only[Qao]<;>omega) ⟨.int ys.length,H,I.tok _,⟨s.toks+1,by rw[Qao,a]⟩,q⟩
def O8:CallR X (.builtin "len") (λxs H Q=>∃z,xs=[.str z]/\z.length<=sizeLine/\Q (.int z.length) H):=by
 intro pins s σ H xs us Q I r h;obtain⟨z,rfl,b,q⟩:=h;obtain⟨u,rfl,t,rfl⟩:=pN r;have a:=tS;exact len_str (by omega) ⟨.int z.length,H,I.tok _,⟨_,rfl⟩,q⟩
def CallR.or(h:CallR X f r)(h':CallR X f r'):CallR X f (λxs H Q=>r xs H Q\/r' xs H Q):=by
 intro pins s σ H xs us Q I rs q;rcases q with q|q
 .exact h pins s σ H xs us Q I rs q
 .exact h' pins s σ H xs us Q I rs q
def O7:CallR X (.type "list") (λxs H Q=>∃p ys,xs=[.ref p]/\(SqL X.K H p ys\/SqT X.K H p ys)/\∀l,H l=none->Q (.ref l) (upd H l (.lst ys))):=by
 intro pins s σ H xs us Q I r h;obtain⟨p,ys,rfl,hq,q⟩:=h;obtain⟨u,rfl,x⟩:=pN r;cases x;have j:∀(its:Ab Ad),Vals ys its->ys.length<=sizeLine->∀(h':Ah) (c':Nat),(∀b o',s.heap.get? b=some o'->h'.get? b=some o') ->
   h'.get? s.heap.objs.size=some { cls:=.type "list",dict:=none,data:=.seq its.toArray c',slots:=#[] }->EP X pins σ Q (.ref s.heap.objs.size) { s with heap:=h' }:=λits a f h' c' i e =>
  ⟨.ref s.heap.objs.size,_,I.laid (t':=s.toks) i (Qap _) (show ObjOk X.prog X.w _ h' _ (.lst ys) from⟨f,its,c',a,e⟩),rfl,q _ (I.hok.fresh (Qap _))⟩
 rcases hq with hq|hq
 .obtain⟨its,a,pl,f⟩:=I.list hq;have v:=a.length;obtain⟨o,t,hc,n,hd⟩:=pl.isList;exact call_list_seq p (.inl rfl) t hc hd (λh' c' i e=>j its a f h' c' i e) (by simp only[Qao]<;>omega)
 .obtain⟨its,a,pl,f⟩:=I.tuple hq;have v:=a.length;obtain⟨o,t,hc,n,hd⟩:=pl;exact call_list_seq p (.inr rfl) t hc hd (λh' c' i e=>j its a f h' c' i e) (by simp only[Qao]<;>omega)
def pV:CallR X (.type "tuple") (λxs H Q=>∃p ys,xs=[.ref p]/\((SqL X.K H p ys/\∀l,H l=none->Q (.ref l) (upd H l (.tup ys)))\/(SqT X.K H p ys/\Q (.ref p) H))):=by
 intro pins s σ H xs us Q I r h;obtain⟨p,ys,rfl,h⟩:=h;obtain⟨u,rfl,j⟩:=pN r;cases j;rcases h with⟨hq,q⟩|⟨hq,q⟩
 .obtain⟨its,a,pl,f⟩:=I.list hq;have t:=a.length;refine call_tuple_list pl.isList (λh' kp=>?_) (by simp only[Qao]<;>omega);have i:Inv X pins σ H { s with heap:=h' }:=I.kept (t':=s.toks) kp;have n:Inv X pins σ (upd H h'.objs.size (.tup ys)) { s with heap:=h'.push { cls:=.type "tuple",data:=.seq its.toArray } } :=
   i.laid (t':=s.toks) (λb o e=>Qag _ e) (Qap _) (show ObjOk X.prog X.w _ _ _ (.tup ys) from⟨f,its,a,IsTup.new _ _⟩)
  exact⟨.ref h'.objs.size,_,n,rfl,q _ (i.hok.fresh (Qap _))⟩
 .obtain⟨its,a,pl,f⟩:=I.tuple hq;exact call_tuple_same pl ⟨.ref p,H,I,rfl,q⟩
def tyV(K:Frag)(T:String)(x:V)(H:Hp):Prop:=match x with
 | .str _=>T = "str"
 | .int _=>T = "int"
 | .ref p=>(T = "list" /\ ∃ xs,SqL K H p xs) \/ (T = "tuple" /\ ∃ o,K.lookup p=some o /\ o.cls=.type "tuple" /\ o.dict=none) \/
   (T = "dict" /\ ((∃kvs,H p=some (.dK kvs))\/∃es ep,H p=some (.dE es ep)))\/(T = "set" /\ ∃S n,H p=some (.set S n))
 |_=>False
def Z3J(I:Inv X pins σ H s)(r:RelV x v)(f:tyV X.K T x H) :
  s.TypeIs v T/\∀a,v=.ref a->∃ob,s.heap.get? a=some ob/\ob.dict=none:=by
 cases x with
 |str z =>
  obtain⟨t,rfl⟩:=r;cases (show T = "str" from f)
  exact⟨typeIs_str s z t,λ_ e=>nomatch e⟩
 |int i =>
  obtain⟨t,rfl⟩:=r;cases (show T = "int" from f)
  exact⟨typeIs_int s i t,λ_ e=>nomatch e⟩
 |ref p =>
  cases r;rcases f with⟨rfl,xs,hq⟩|⟨rfl,o,b,hc,hd⟩|⟨rfl,b⟩|⟨rfl,S,n,b⟩
  .obtain⟨its,_,pl,_⟩:=I.list hq;refine⟨pl.isList.typeIs,λa e=>?_⟩;cases e;obtain⟨o,n,e,c,hd,_⟩:=pl;exact⟨o,e,hd⟩
  .refine⟨⟨o,I.kIn p o b,hc⟩,λa e=>?_⟩;cases e;exact⟨o,I.kIn _ o b,hd⟩
  .have z:∃o,s.heap.get? p=some o/\o.ExactDict:=by
    rcases b with⟨kvs,b⟩|⟨kvs,ep,b⟩
    .obtain⟨_,_,_,_,o,_,_,e,ex,_⟩:=I.hok p _ b;exact⟨o,e,ex⟩
    .obtain⟨_,_,_,_,o,_,e,ex,_⟩:=I.hok p _ b;exact⟨o,e,ex⟩
   obtain⟨o,e,ex⟩:=z;refine⟨⟨o,e,ex.1⟩,λa e2=>?_⟩;cases e2;exact⟨o,e,ex.2.1⟩
  .obtain⟨o,_,_,_,e,ex,_⟩:=I.hok p _ b;refine⟨⟨o,e,ex.1⟩,λa e2=>?_⟩;cases e2;exact⟨o,e,ex.2.1⟩
 |_=>exact False.elim f
def ZaU(K:Frag)(T:String)(r:V->Ab V->Hp->VK->Prop)(to:TE):TE:=λσ H Q=>to σ H λx H1=>tyV K T x H1/\r x [] H1 Q
def tBM(K:Frag)(T:String)(r:V->Ab V->Hp->VK->Prop)(to:TE)(t:TA):TE:=λσ H Q=>to σ H λx H1=>tyV K T x H1/\t σ H1 λxs H2=>r x xs H2 Q
variable {o e:Ag}{es:Ab Ag}{to:TE}{t:TA}{name:Str}{apos cpos:Pos}{T id:String}{r:V->Ab V->Hp->VK->Prop}
def Z9d(j:PlainAttrs T)(f:Slot T name id)(i:typeOf (.builtin id)=pure (.type "method_descriptor"))(n:MtR X id r)(l:PE X o to)
  (a:attributeBase o name X.env (eval o X.env)=eval o X.env:=by rfl) (b:(apos.endLine==cpos.line)=true:=by rfl):PE X (.Call (.Attribute o name apos) [] [] cpos) (ZaU X.K T r to):=by
 intro pins s σ H Q I h;refine wpAny_Call_method0_late a b (thn (l pins s σ H _ I h) λv s1 ⟨x,H1,I1,r1,ty,q1⟩=>?_);obtain⟨h1,h2⟩:=Z3J I1 r1 ty;exact⟨T,id,j,f,i,h1,h2,Calls.callWith_builtin rfl (PySem.evalArgs_none (n pins s1 σ H1 x [] v [] Q I1 r1 .nil q1))⟩
def B6(p:PlainAttrs T)(i:Slot T name id)(n:typeOf (.builtin id)=pure (.type "method_descriptor"))(w:MtR X id r)(q:PE X o to)(u:PA X (e::es) t)
  (f:attributeBase o name X.env (eval o X.env)=eval o X.env:=by rfl)
  (j:((backTo cpos (starEach (e :: es) X.env)).all (fun x=>!x.1) && (backToKw cpos (keywordEach [] X.env)).all (fun x=>x.1.isSome)
   && decide ((e::es).length+([]:Ab Keyword).length+(if ([]:Ab Keyword).isEmpty then 0 else 1)<30))=true:=by rfl)
  (b:(apos.endLine==cpos.line)=true:=by rfl) (hs:sEa e es X.env:=by rfl) (a:bTa cpos es X.env:=by rfl) :
  PE X (.Call (.Attribute o name apos) (e::es) [] cpos) (tBM X.K T r to t):=by
 intro pins s σ H Q I h;refine wpAny_Call_method_late f j b rfl (thn (q pins s σ H _ I h) λv s1 ⟨x,H1,I1,r1,ty,q1⟩=>?_);obtain⟨h1,h2⟩:=Z3J I1 r1 ty;refine⟨T,id,p,i,n,h1,h2,?_⟩;have l:=u cpos pins s1 σ H1 _ I1 q1;rw[hs]at l ⊢;refine Calls.callWith_builtin (by show(false||(backTo cpos (starEach es X.env)).any (·.1))=false;rw[a]<;>rfl) (Calls.evalArgs_plain ?_);exact thn l λus s2 ⟨vs,H2,I2,r2,q2⟩=>w pins s2 σ H2 x vs v us Q I2 r1 r2 q2
end
def MtM(X:Cx)(id:String)(r:V->Ab V->Hp->VK->Prop):Prop :=
 ∀(pins:Ab (Af×Obj)) (s:Ac) (σ:St) (H:Hp) (x:V) (xs:Ab V) (v:Ad) (us:Ab Ad) (Q:VK),Inv X pins σ H s->RelV x v->Vals xs us->r x xs H Q ->
  wpAny (model X.prog X.w) X.A (call (.builtin id) (v::us)) (EP X pins σ Q) X.xe s
def Vals.one:∀{x:V}{us:Ab Ad},Vals [x] us->∃u,us=[u]/\RelV x u
 |_,_,.cons r .nil=>⟨_,rfl,r⟩
theorem Vals.reverse(h:Vals xs us):Vals xs.reverse us.reverse:=by
 induction h with
 |nil=>exact .nil
 |cons r t ih=>rw[List.reverse_cons,List.reverse_cons];exact Vals.append ih (.cons r .nil)
section
variable {X:Cx}{pins:Ab (Af×Obj)}{σ:St}{H:Hp}{s:Ac}{l:Af}{xs ys:Ab V}
def Inv.lset{its its':Ab Ad}{n:Nat}{f:Ae Ad->Ae Ad}{t':Nat}(I:Inv X pins σ H s)(a:H l=some (.lst xs))
  (e:s.heap.get? l=some { cls:=.type "list",data:=.seq its.toArray n }) (b:f its.toArray=its'.toArray) (i:Vals ys its') (h:ys.length<=sizeLine) :
  Inv X pins σ (upd H l (.lst ys)) { s with heap:=s.heap.update l (Obj.mapSeq f),toks:=t' }:=by
 have q:=PySem.IsL.update e f;rw[b]at q;refine I.write (x:=l) (e:=l) (by rw[a];exact trivial) (.inl rfl) (λb' u hb hu=>(Heap.get?_update_other s.heap (Obj.mapSeq f) (Ne.symm hb)).trans hu) ⟨_,q⟩ ?_;exact⟨h,its',_,i,q⟩
def Inv.lnew(I:Inv X pins σ H s)(b:Vals ys its)(a:ys.length<=sizeLine) :
  Inv X pins σ (upd H s.heap.objs.size (.lst ys)) { s with heap:=s.heap.push { cls:=.type "list",data:=.seq its.toArray },toks:=t' } :=
 I.laid (λ_ _ q=>Qag _ q) (Qap _) ⟨a,its,0,b,Qax _ rfl⟩
theorem Inv.fresh(I:Inv X pins σ H s):H s.heap.objs.size=none:=I.hok.fresh (Qap _)
def Inv.lstM(I:Inv X pins σ H s)(a:H l=some (.lst xs)):xs.length<=sizeLine/\∃(its:Ab Ad) (n:Nat),Vals xs its/\xs.length=its.length/\s.heap.get? l=some { cls:=.type "list",data:=.seq its.toArray n }:=by
 obtain⟨z,its,n,r,e⟩:=I.hok l _ a;exact⟨z,its,n,r,r.length,e⟩
end
section
variable {X:Cx}
def K4:V->Ab V->Hp->VK->Prop:=λx vs H Q=>∃l xs y,x=.ref l/\vs=[y]/\H l=some (.lst xs)/\xs.length<sizeLine/\Q .non (upd H l (.lst (xs++[y])))
def pA:MtM X "list.append" K4:=by
 intro pins s σ H x vs v us Q I b i h;obtain⟨l,xs,y,rfl,rfl,a,j,q⟩:=h;cases b;obtain⟨u,rfl,f⟩:=i.one;obtain⟨z,its,n,r,o,e⟩:=I.lstM a;refine call_meets F.slot_list_append ⟨_,e,rfl⟩ F.entry_list_append (F.args_list_append_2 _ _) (PySem.list_append l its.toArray n u (by rw[Qao];omega)) ⟨e,?_⟩;refine⟨.non,_,I.lset (its':=its++[u]) a e (by simp) (r.append (.cons f .nil)) ?_,rfl,q⟩;rw[Qav,QaN];omega
def Za7:R2:=λx y H Q=>∃l b xs zs,x=.ref l/\y=.ref b/\H l=some (.lst xs)/\H b=some (.lst zs)/\xs.length+zs.length<=sizeLine/\∀p,H p=none->Q (.ref p) (upd H p (.lst (xs++zs)))
def Z0A:OpR X (binaryOp .Add) Za7:=by
 intro pins s σ H x y v u Q I f j h;obtain⟨l,b,xs,G,rfl,rfl,t,p,C,q⟩:=h;cases f;cases j;obtain⟨z,its,n,r,F,e⟩:=I.lstM t;obtain⟨E,a,B,i,A,w⟩:=I.lstM p;refine PySem.P.add_list e w ?_ (by rw[Qao,Qao];omega);have o:its.toArray++a.toArray=(its++a).toArray:=by simp
 rw[o];exact⟨.ref _,_,I.lnew (t':=s.toks) (r.append i) (by rw[Qav];omega),rfl,q _ I.fresh⟩
end
section
set_option maxRecDepth 100000 in
end
end L2
namespace Att
open PySem PySem.W PySem.Calls PyProof.Rows
def vM:∀(ns:Ab Int) (vs:Ab Ad),WellAll P h vs (ns.map WData.int)->IntsAre vs ns:=by
 intro ns
 induction ns with
 |nil =>
  intro vs w;rw[QaV]at w;cases w;exact .nil
 |cons n ns ih =>
  intro vs w;rw[Qat]at w;cases w with
  |cons a b =>
   cases a;exact .cons _ _ (ih _ b)
def Z2k{l:OpenLaw}{n:Nat}(u:l.most=some n){P:Params}{h:Ah}{args:Ab WData}{f:Ab Ad}
  (b:l.row.toRowW.claim.pre args=true) (p:WellAll P h f args) :
  ∃a vs ns,f=[Value.ref a]/\args=[WData.list (ns.map WData.int)]/\h.get? a=some { cls:=.type "list",data:=.seq vs.toArray }/\IntsAre vs ns/\ns.length<=n:=by
 have t:WShape.hasAll [] args [.list .int]=true:=(pre_splitW b).1;have hc:l.pre.holds [] { args:=args }=true:=(pre_splitW b).2;obtain⟨d,r,rfl,h1,h2⟩:=hasAllW_cons t;obtain rfl:=hasAllW_nil h2;obtain⟨xs,rfl,h3⟩:=hasW_list h1;obtain⟨ns,rfl⟩:=items_int h3;have o:ns.length<=n:=by
  unfold OpenLaw.pre at hc;have j:(WTm.not (.lt (.lit (.int (n:Int))) (.len (.arg 0)))).holds [] { args:=[.list (ns.map .int)] }=true:=by
   have j:=(holds_andW hc).1;rw[u]at j;exact j
  have i:=condW_of j (w_not (w_lt w_lit (w_len_list (w_arg rfl))));rw[Qab]at i;refine Nat.le_of_not_lt λq=>?_;have v:(n:Int)<((ns.length:Nat):Int):=by omega
  first
   |(rw[Rj v]at i;exact absurd i (by decide))
   |(simp at i;omega)
 cases p with
 |cons w1 w2 =>
  cases w2;cases w1 with
  |list ho hall=>exact⟨_,_,ns,rfl,rfl,ho,vM ns _ hall,o⟩
def Z2H(l:OpenLaw)(args:Ab WData):l.row.toRowW.claim.post args (.bool true) args=true :=
 postW_of (r:=l.row.toRowW) (X:=(true==true))
  (show WShape.has [] (.bool true) .bool=true by first|rfl|decide|simp[WShape.has,WShape.arms,WShape.armsAll])
  (show(WTm.eq .res (.lit (.bool true))).value [] { args:=args,res:=some (.bool true),after:=args }=some (.bool (true==true)) from w_eq_bool (w_res rfl) w_lit) rfl
end Att
namespace L2
open PySem PySem.Spec PyProof.Rows
theorem sM:∀{vs:Ab Ad}{ns:Ab Int},IntsAre vs ns->Vals (ns.map V.int) vs
 |_,_,.nil=>.nil
 |_,_,.cons n t h=>.cons ⟨t,rfl⟩ (sM h)
def ZaG(H:Hp):Prop:=∀b,H b=none\/∃o xs,H b=some (.frz o (.lst xs))
def Z55{P:Aj}{w:Ak}{K:Frag}{mg M:Str->Aa Ad}{CX:CXT}{k:Nat}{fa a:Af}{fd:FuncData}{x:Str}{sp:Sp}{s₁:Ac}{vs:Ab Ad}{ns:Ab Int}
  (Y:K.In s₁.heap) (A:s₁.heap.Ns mainGlobals mg) (f:s₁.heap.Ns builtinsNs M) (W:∀x:Str,x ≠ "__name__" -> M x=bootBuiltins x) (G:s₁.heap.NoLimit) (hg:s₁.gens = #[])
  (y:s₁.heap.get? a=some { cls:=.type "list",data:=.seq vs.toArray }) (hi:IntsAre vs ns) (R:ns.length<=sizeLine) (hr:Room k callerA)
  (F:∀base:Ah,K.In base->base.Ns mainGlobals mg->gT P w K mg base CX k fa fd [x] sp) (t:∀(s:Ac) (u:Ad),BindsTo s fd ⟨[u],[]⟩ [(x,u)])
  (O:∀H:Hp,ZaG H->SqL K H a (ns.map V.int)->sp [.ref a] H (λv _=>v=.bl true) λ_ _ _=>False)
  (T:∀H e s',CX [] H s₁ (λ_ _ _=>False) e s'->False) :
  codeAny (model P w) callerA (.call (.ref fa) ⟨[.ref a],[]⟩) (λr s'=>r=.ok (.ret (.bool true))/\OldK s₁.heap s'.heap/\s'.os=s₁.os/\AllBare s'.gens) s₁:=by
 have Z:=sM hi;have I:=hi.length
 -- from an abstract heap in which nothing but the script may be tracked
 have p:∀H:Hp,ZaG H->SqL K H a (ns.map V.int)->HOk P w H s₁.heap->(∀b,H b≠none->b=a)->(H a≠none->K.lookup a=none) ->
   codeAny (model P w) callerA (.call (.ref fa) ⟨[.ref a],[]⟩) (λr s'=>r=.ok (.ret (.bool true))/\OldK s₁.heap s'.heap/\s'.os=s₁.os/\AllBare s'.gens) s₁:=by
  intro H X hS B U hK;have i:∀{b:Af}{o:Obj},s₁.heap.get? b=some o->H b=none->(N3 s₁.heap H).get? b=some o:=λe n=>Z5f e n;have Q:∀{b:Af}{o:Obj}{es:Ae DictEntry}{ep:Nat},s₁.heap.get? b=some o->o.data=.dict es ep->H b=none:=λ{b o es ep} e d=>by
   cases q:H b with
   |none=>rfl
   |some u =>
    have E:b=a:=U b (by rw[q];simp);subst E;rw[y]at e;cases e;have d':Data.seq vs.toArray _=Data.dict es ep:=d;cases d'
  have j:∀{b:Af}{m:Str->Aa Ad},s₁.heap.Ns b m->(N3 s₁.heap H).Ns b m:=λ{b m} ⟨o,es,ep,e,d,r⟩=>⟨o,es,ep,i e (Q e d),d,r⟩;have C:K.In (N3 s₁.heap H):=λb o e=>i (Y b o e) (by
   cases q:H b with
   |none=>rfl
   |some u =>
    have E:b=a:=U b (by rw[q];simp);subst E;rw[hK (by rw[q];simp)]at e;cases e)
  have hM:Mod K mg (N3 s₁.heap H):=⟨C,j A,⟨M,j f,W⟩,let ⟨mc,h1,h2⟩:=G;⟨mc,j h1,h2⟩⟩;have e0:Env0 P w K mg (N3 s₁.heap H) callerA [] s₁ H:=⟨rfl,hM,λb o e=>Z7f e,Nat.le_of_eq (Z33 _ _),trivial,λb f=>absurd (show b∈([]:Ab Af) from f) (by simp),B,.of_eq hg⟩
  refine codeAny_mono ((F _ C (j A)).run callerA [] s₁ H ⟨[.ref a],[]⟩ [.ref a] [.ref a] _ _ hr e0 (t s₁ (.ref a)) (.cons rfl .nil) (O H X hS)) λr s' h=>?_;cases r with
  |error e=>exact(T H e s' h).elim
  |ok fl =>
   cases fl with
   |next=>exact False.elim h
   |brk=>exact False.elim h
   |cont=>exact False.elim h
   |ret u =>
    obtain⟨v,H',os,J,un,L,r',q⟩:=h;have q':v=.bl true:=q;subst q';obtain rfl:u=Value.bool true:=r';refine⟨rfl,OldK.of_keep λb o e=>?_,os,J⟩;cases q:H b with
    |none=>exact un.keep b o e q (by intro z;exact absurd (show b∈([]:Ab Af) from z) (by simp)) (by simp)
    |some u =>
     rcases X b with z|⟨ob,xs,z⟩
     .rw[q]at z;cases z
     .have z2:=un.frzs b ob _ z;obtain⟨S,_⟩:=B b _ z;obtain⟨e2,_⟩:=L b _ z2;rw[e]at S;cases S;exact e2
 cases N:K.lookup a with
 |some o =>
  -- the script is one of the module's own objects
  have e:=Y a o N;rw[y]at e;cases e;refine p (λ_=>none) (λ_=>.inl rfl) (.inr ⟨_,vs.toArray,_,N,rfl,rfl,rfl,by rw[Qao,I];exact R,by simpa using Z⟩) (λb u z=>by have l:(none:Aa HO)=some u:=z;cases l) (λb z=>absurd rfl z) λz=>absurd rfl z
 |none =>
  refine p (λb=>if b=a then some (.frz { cls:=.type "list",data:=.seq vs.toArray } (.lst (ns.map V.int))) else none) (λb=>?_) (.inl (.inr ⟨{ cls:=.type "list",data:=.seq vs.toArray },if_pos rfl⟩)) (λb u z=>?_) (λb z=>?_) λ_=>N
  .by_cases f:b=a
   .exact .inr ⟨_,_,if_pos f⟩
   .exact .inl (if_neg f)
  .by_cases f:b=a
   .have l:=(if_pos f).symm.trans z;cases l;subst f;exact⟨y,by rw[Qab];exact R,vs,_,Z,y⟩
   .have l:=(if_neg f).symm.trans z;cases l
  .by_cases f:b=a
   .exact f
   .exact absurd (if_neg f) z
def N1(s:Stmt)(j:Nat):Stmt:=match s with
 | .ClassDef _ _ _ body _ _ _ _ _ _ _=>body.getD j (.Pass ⟨0,0,0,0⟩)
 |_=>.Pass ⟨0,0,0,0⟩
def dL(s:Stmt):Arguments:=match s with
 | .FunctionDef _ a _ _ _ _ _ _ _ _=>a
 |_=>{ posonlyargs:=[],args:=[],vararg:=none,kwonlyargs:=[],kw_defaults:=[],kwarg:=none,defaults:=[] }
def cB(s:Stmt):Ab Stmt:=match s with
 | .FunctionDef _ _ b _ _ _ _ _ _ _=>b
 |_=>[]
def aR(s:Stmt):Scope:=match s with
 | .FunctionDef _ _ _ _ _ _ sc _ _ _=>sc
 |_=>{ kind:=.function,names:=[],isGenerator:=false,isCoroutine:=false }
abbrev CX0:CXT:=λ_ _ _ _ _ _=>False
abbrev E0:XK:=λ_ _ _=>False
def U5:qQ CX0 X E0:=λ_ _ _ _ _ _ _ h=>h.elim
structure Fun(K:Frag)(x qual:Str)(st:Stmt)(f:Addr)(fd:FuncData):Prop where
 ex:∃(oc:Ad) (od:Aa Af) (kV doc pm:Ad) (an:Aa Af) (cdv ct:Ad) (osl:Ae (Aa Ad)),
  fd=fnOf x qual (dL st) (cB st) (aR st) .none kV doc pm an cdv ct/\K.lookup f=some ⟨oc,od,.func fd,osl⟩/\codeIn K cdv qual=true
 kp:keepIn K (.ref f)=true
def Zar(a:Room k A):A.units+1<cLine:=Nat.lt_of_le_of_lt (Nat.add_le_add_left (by decide:1<=64) _) a.units
def lW(h:n<=1000):n<sizeLine:=Nat.lt_of_le_of_lt h (by decide)
section
variable {X:Cx}
def pv(i:Nat){x:Str}{pos:Pos}(b:X.N[i]?=some x:=by rfl)(f:Vis X.env.scope x:=by first|exact Or.inl rfl|exact Or.inr (Or.inl rfl)|exact Or.inr (Or.inr rfl))(hd:nDb x:=by decide)
  (a:(x==("__classdict__" : Str))=false:=by decide):PE X (.Name x pos) (zE i):=kH b f hd a
end
def zO{A B:Prop}(h:B):if false=true then A else B:=by
 rw[if_neg Qbg];exact h
def zN{A B:Prop}(h:A):if true=true then A else B:=by
 rw[if_pos rfl];exact h
def Same(H H':Hp):Prop:=∀b o,H b=some o->H' b=some o
def Same.refl(H:Hp):Same H H:=λ_ _ h=>h
def Same.trans(a:Same H H1)(b:Same H1 H2):Same H H2:=λc o h=>b c o (a c o h)
def Same.free(e:Same H H'){l:Af}(h:H' l=Option.none):H l=Option.none:=by
 cases q:H l with
 |none=>rfl
 |some o =>
  rw[e l o q]at h;cases h
def Zak{P:Aj}{w:Ak}{k:Key}{u:Ad}(r:RelV (kV k) u):(gI P w).is k u=true:=by
 cases k with
 |inl i=>obtain⟨t,e⟩:=(show ∃t,u=Value.int i t from r);subst e;exact V2 P w i t
 |inr x=>obtain⟨t,e⟩:=(show ∃t,u=Value.str x t from r);subst e;exact V1 P w x t
theorem C6{P:Aj}{w:Ak}:∀{ks:Ab Key}{us:Ab Ad},Vals (ks.map kV) us->ItemsAre (gI P w) ks us
 |[],_,r=>by rw[QaV]at r;cases r;exact .nil
 |k::ks,_,r=>by
  rw[Qat]at r;cases r with
  |cons h t=>exact .cons (Zak h) (C6 t)
structure M1(X:Cx)(o:Expr)(m:Str)(apos:Pos)(e:Expr)(cpos:Pos):Prop where
 base:attributeBase o m X.env (eval o X.env)=eval o X.env
 few:((backTo cpos (starEach [e] X.env)).all (λx=>!x.1)&&(backToKw cpos (keywordEach [] X.env)).all (λx=>x.1.isSome)
  && decide (([e]:Ab Ag).length+([]:Ab Keyword).length+(if ([]:Ab Keyword).isEmpty then 0 else 1)<30))=true
 line:(apos.endLine==cpos.line)=true
 trees:backTo cpos (starEach [e] X.env)=[(false,eval e X.env)]
structure M2(X:Cx)(o:Expr)(m:Str)(apos:Pos)(e f:Expr)(cpos:Pos):Prop where
 base:attributeBase o m X.env (eval o X.env)=eval o X.env
 few:((backTo cpos (starEach [e,f] X.env)).all (λx=>!x.1)&&(backToKw cpos (keywordEach [] X.env)).all (λx=>x.1.isSome)
  && decide (([e,f]:Ab Ag).length+([]:Ab Keyword).length+(if ([]:Ab Keyword).isEmpty then 0 else 1)<30))=true
 line:(apos.endLine==cpos.line)=true
 trees:backTo cpos (starEach [e,f] X.env)=[(false,eval e X.env),(false,eval f X.env)]
def O5(I:Nat->Ac->Prop)
  (f:∀ n s,I n s->wpAny (model prog w) A (pyNext it) (fun r s₁=>match r with
   |none=>R (.ok .next) s₁
   | some v=>wpAny (model prog w) A (letOwnedTupleGo target it v) (fun _ s₀=>wpAny (model prog w) A (assign target env v) (fun _ s₂ =>
     wpAny (model prog w) A (forIn ifs true λc r=>if r=true then do let ok <- isTrue c env (eval c env);pure (ForInStep.yield ok) else pure (ForInStep.yield r)) (λok a =>
      if ok=true then wpAny (model prog w) A (eval elt env) (λx b =>
       wpAny (model prog w) A (call (.builtin "list.append") [acc,x]) (λ_ s₅=>∃m,m<n/\I m s₅) (notedBy (model prog w) A env λe s'=>R (.error e) s') b) (notedBy (model prog w) A env λe s'=>R (.error e) s') a
      else ∃m,m<n/\I m a) (notedBy (model prog w) A env λe s'=>R (.error e) s') s₂) (notedBy (model prog w) A env λe s'=>R (.error e) s') s₀)
     (notedBy (model prog w) A env λe s'=>R (.error e) s') s₁) (notedBy (model prog w) A env λe s'=>R (.error e) s') s)
  (n:Nat) (h:I n s) :
  codeAny (model prog w) A (.compLoop (.ListComp elt [⟨target,iter,ifs,0⟩] scope pos) 0 it acc env) R s:=by
 refine codeAny_loop rfl I (λn s hI=>?_) n h;show wpAny _ A ((compTurn (.ListComp elt [⟨target,iter,ifs,0⟩] scope pos) 0 it acc env).onRaise (λx=>do noteFrame x env;theTreesLotGoes x)) _ _ s
 refine wpAny_noted ?_;rw[compTurn_list];refine Ra (wpAny_standAt (Ra (Rc (f n s hI) (λr s₁ h₁=>?_) λ_ _ h'=>h')));cases r with
 |none=>exact Rb h₁
 |some v =>
  refine Ra (Rc h₁ (λ_ s₀ h₀=>?_) λ_ _ h'=>h');refine Ra (Rc h₀ (λ_ s₂ h₂=>Ra (Rc h₂ (λok a h₃=>?_) λ_ _ h'=>h')) λ_ _ h'=>h');cases ok with
  |false=>exact Rb ⟨rfl,h₃⟩
  |true =>
   exact Ra (Ra (Rc h₃ (λx b h₄=>Ra (Rc h₄ (λ_ s₅ h₅=>Rb (Rb ⟨rfl,h₅⟩)) λ_ _ h'=>h')) λ_ _ h'=>h'))
theorem qO:∀(names:Ab (Str×NameKind)) (acc:Ab (Str×Af)),(∀n,(n,NameKind.free)∈names->∃c,env.cells.lookup n=some c) ->
  (∀n c,acc.lookup n=some c->env.cells.lookup n=some c) ->
  ∃cl,(forIn names acc λ(x:Str×NameKind) cs=>(if (x.2==NameKind.free)=true then(cellOf env x.1 >>= λa=>pure (ForInStep.yield ((x.1,a)::cs))) else pure (ForInStep.yield cs):Sem (ForInStep (Ab (Str×Af)))))=pure cl /\
   (∀n c,cl.lookup n=some c->env.cells.lookup n=some c)/\(∀n,(n,NameKind.free)∈names->∃c,cl.lookup n=some c)/\(∀n c,acc.lookup n=some c->∃c',cl.lookup n=some c')
 |[],acc,_,h2=>⟨acc,rfl,h2,λn h=>(nomatch h),λn c h=>⟨c,h⟩⟩
 |(n,k)::r,acc,h1,h2=>by
  by_cases l:k=.free
  .subst l;obtain⟨c,hc⟩:=h1 n Qai;have o:∀m c',((n,c)::acc).lookup m=some c'->env.cells.lookup m=some c':=by
    intro m c' e;rw[QaF]at e;cases q:m==n with
    |true =>
     rw[q]at e;have:=eq_of_beq q;subst this;cases e;exact hc
    |false =>
     rw[q]at e;exact h2 m c' e
   obtain⟨cl,e,j,i,f⟩:=qO r ((n,c)::acc) (λm b=>h1 m (Qaa _ b)) o;refine⟨cl,?_,j,?_,?_⟩
   .rw[Qa6];have p:cellOf env n=pure c:=by unfold cellOf;rw[hc]
    show((if (NameKind.free==NameKind.free)=true then _ else _) >>= _)=_;rw[if_pos (by rfl),p];exact e
   .intro m b;rcases Qad.mp b with z|z
    .cases z;exact f n c (by simp[QaF])
    .exact i m z
   .intro m c' b;cases q:m==n with
    |true=>exact f m c (by rw[QaF,q])
    |false=>exact f m c' (by rw[QaF,q];exact b)
  .obtain⟨cl,e,j,i,f⟩:=qO r acc (λm b=>h1 m (Qaa _ b)) h2;refine⟨cl,?_,j,?_,f⟩
   .rw[Qa6];have:(k==NameKind.free)=false:=by simpa using l
    show((if (k==NameKind.free)=true then _ else _) >>= _)=_;rw[this,if_neg (by decide)];exact e
   .intro m b;rcases Qad.mp b with z|z
    .cases z;exact absurd rfl l
    .exact i m z
def yP(h:∀n,(n,NameKind.free)∈scope.names->∃c,env.cells.lookup n=some c) :
  ∃cl,closureFor scope env=pure cl/\(∀n c,cl.lookup n=some c->env.cells.lookup n=some c)/\(∀n,(n,NameKind.free)∈scope.names->∃c,cl.lookup n=some c):=by
 obtain⟨cl,e,b,a,_⟩:=qO (env:=env) scope.names [] h (λn c q=>(nomatch q));refine⟨cl,?_,b,a⟩;unfold closureFor
 first
  |(rw[show(forIn scope.names ([]:Ab (Str×Af)) _:Sem (Ab (Str×Af)))=pure cl from e];rfl)
  |(simp only[bind_pure];exact e)
  |exact e
def gO(X:Cx)(N':Ab Str)(scope:Scope)(cl:Ab (Str×Af))(C:Af)(s₀:Ac)(H₀:Hp)(ex:Ab Af)(pins:Ab (Af×Obj)):Cx :=
 { X with N:=N',s₀:=s₀,H₀:=H₀,env:=compEnvC scope cl C X.env,outer:=X.stack,stack:=X.stack,ex:=ex,fn:=λ_=>false,pn:=X.pn++pins,xe:=λ_ _=>False }
def iS(osc:Scope)(N:Ab Str)(scope:Scope)(fr:Ab Nat):Bool :=
 scope.kind == .function&&scope.names.all (λy=>y.2 != .cell)&&scope.names.all (λy=>y.2 != .free||(osc.names.lookup y.1==some .cell||osc.names.lookup y.1==some .free)) &&
 fr.all (λj=>match N[j]? with|some x=>scope.names.lookup x==some .free|none=>false)&&scope.names.all (λy=>y.2 != .local||scope.names.lookup y.1==some .local)
theorem jP{env:Env}:∀{names:Ab (Str×NameKind)}{x:Str},names.lookup x=some .free ->
  (names.map λ(n,k)=>if (k==NameKind.free&&env.scope.kind == .function&&env.kindOf n==some .cell) then(n,NameKind.cell) else(n,k)).lookup x=some .cell \/
  (names.map λ(n,k)=>if (k==NameKind.free&&env.scope.kind == .function&&env.kindOf n==some .cell) then(n,NameKind.cell) else(n,k)).lookup x=some .free
 |[],_,h=>by simp at h
 |(n,k)::r,x,h=>by
  have b:=@jP env r x;show List.lookup x ((if (k==NameKind.free&&env.scope.kind == .function&&env.kindOf n==some .cell)=true then(n,NameKind.cell) else(n,k))::_)=_\/List.lookup x ((if (k==NameKind.free&&env.scope.kind == .function&&env.kindOf n==some .cell)=true then(n,NameKind.cell) else(n,k))::_)=_;cases a:x==n with
  |true =>
   simp only[QaF,a]at h;cases h;by_cases hc:(NameKind.free==NameKind.free&&env.scope.kind == .function&&env.kindOf n==some .cell)=true
   .rw[if_pos hc];left;simp only[QaF,a]
   .rw[if_neg hc];right;simp only[QaF,a]
  |false =>
   simp only[QaF,a]at h;by_cases hc:(k==NameKind.free&&env.scope.kind == .function&&env.kindOf n==some .cell)=true
   .rw[if_pos hc];simp only[QaF,a];exact b h
   .rw[if_neg hc];simp only[QaF,a];exact b h
def uR{env:Env}{names:Ab (Str×NameKind)}(hc:∀y∈names,y.2 ≠ .cell){x:Str}{a:NameKind}(f:a=.cell\/a=.free)
  (h:(names.map λ(n,k)=>if (k==NameKind.free&&env.scope.kind == .function&&env.kindOf n==some .cell) then(n,NameKind.cell) else(n,k)).lookup x=some a):(x,NameKind.free)∈names:=by
 have h1:=PySem.mem_of_lookup h;obtain⟨⟨n,k⟩,b,e⟩:=QaL.mp h1;by_cases q:(k==NameKind.free&&env.scope.kind == .function&&env.kindOf n==some .cell)=true
 .simp only[q]at e;simp at e;obtain⟨rfl,_⟩:=e;simp at q;obtain⟨⟨rfl,_⟩,_⟩:=q;exact b
 .simp only[q]at e;simp at e;obtain⟨rfl,rfl⟩:=e;rcases f with z|z
  .exact absurd z (hc _ b)
  .subst z;exact b
def nE(k:Nat)(fr:Ab Nat)(σ:St):St:=List.replicate k none++fr.map λj=>(σ[j]?).join
def gA(tgs:Ab Str)(fr:Ab Nat)(N:Ab Str):Ab Str:=tgs++fr.map λj=>(N[j]?).getD Str.empty
def Z5c{scope:Scope}{tgs:Ab Str}{fr:Ab Nat}{cl:Ab (Str×Af)}{h':Ah}{tk:Nat}{ex:Ab Af}(I:Inv X pins σ H s)
  (K:iS X.env.scope X.N scope fr=true)
  (h:∀n c,cl.lookup n=some c->X.env.cells.lookup n=some c) (l:∀n,(n,NameKind.free)∈scope.names->∃c,cl.lookup n=some c)
  (S:h'.Ns s.heap.objs.size (λ_=>none)) (f:∀b o,s.heap.get? b=some o->h'.get? b=some o)
  (t:∀b∈ex,zW X pins H b/\b<s.heap.objs.size) :
  Inv (gO X (gA tgs fr X.N) scope cl s.heap.objs.size s H ex pins) [] (nE tgs.length fr σ) H { s with heap:=h',toks:=tk }:=by
 simp only[iS,Qam,QaS]at K;obtain⟨⟨⟨⟨c1,c2⟩,c3⟩,c4⟩,c5⟩:=K;have F:scope.kind=.function:=by simpa using c1
 have A:∀y∈scope.names,y.2 ≠ .cell:=λy hy=>by simpa using c2 y hy
 have lt:∀b o,s.heap.get? b=some o->b<s.heap.objs.size:=λb o e=>Qal e;have nofr:∀b∈frs X.stack,b∈X.env.locals::X.fs:=I.stkSub;refine⟨⟨I.ok.mod,F,I.ok.glob,I.ok.blt,Qap _,λx y c a b=>I.ok.inj x y c (h _ _ a) (h _ _ b),λx P=>?_,λx c B _=>?_,I.ok.hd,I.ok.frames,.inl rfl,λb hb=>⟨?_,λx c e=>(t b hb).1.2.2.2.2.1 x c (h _ _ e)⟩,
   I.bs,QaE I.ok.bsz I.sz,λb o e hb=>?_,λb hb B=>?_,I.stack,I.stkFree⟩,
  rfl,I.bare,Un.kept f,⟨λ_=>none,S,λi x v h1 h2 h3=>?_⟩,λx c e=>?_,I.fresh,λx c e=>I.freeC x c (h _ _ e),λp hp=>?_,I.hok.kept f,?_⟩
 .-- has
  have P:(relabel scope X.env).names.lookup x=some .cell\/(relabel scope X.env).names.lookup x=some .free:=P;rcases P with z|z
  .exact l x (uR A (.inl rfl) z)
  .exact l x (uR A (.inr rfl) z)
 .cases B
 .show b≠s.heap.objs.size;exact QaK (t b hb).2
 .-- noex
  obtain⟨⟨_,_,_,h4,_⟩,_⟩:=t b hb;rcases h4 with z|z
  .exact I.ok.noex b o e z
  .exact absurd (Qal (I.ok.bs b o e).1) (Nat.not_lt.mpr z)
 .-- exfs
  obtain⟨⟨_,h2,h3,_⟩,_⟩:=t b hb;rcases Qad.mp (nofr b B)with z|z
  .exact h2 z
  .exact h3 z
 .-- loc
  have h1:(gA tgs fr X.N)[i]?=some x:=h1;by_cases hi:i<tgs.length
  .unfold nE at h2;rw[QaB (by simpa using hi),Qba,if_pos hi]at h2;cases h2
  .unfold nE at h2;rw[QaQ (by simpa using hi),List.length_replicate,QaD]at h2;unfold gA at h1;rw[QaQ (by simpa using hi),QaD]at h1;cases R:fr[i-tgs.length]? with
   |none=>rw[R]at h2;cases h2
   |some j =>
    rw[R]at h1 h2;have E:=c4 j (QaT R);cases G:X.N[j]? with
    |none=>rw[G]at E;cases E
    |some y =>
     rw[G]at E;simp only[QaH,G,Option.getD_some]at h1;cases h1;have Q:scope.names.lookup x=some .free:=by simpa using E
     have W:σ[j]?=some (some v):=by
      simp only[QaH]at h2;cases L:σ[j]? with
      |none=>rw[L]at h2;cases h2
      |some o=>rw[L]at h2;simp only[Qbm]at h2;injection h2 with h2;rw[h2]
     have J:X.env.scope.names.lookup x=some .cell\/X.env.scope.names.lookup x=some .free:=by
      have:=c3 _ (PySem.mem_of_lookup Q);simpa using this
     obtain⟨m,_,M⟩:=I.loc;obtain⟨u,r,q⟩:=M j x v G W (J.elim (λz=>.inr (.inl z)) λz=>.inr (.inr z));refine⟨u,r,.inr ?_⟩;obtain⟨c,hc⟩:=l x (PySem.mem_of_lookup Q);have T:=jP (env:=X.env) Q;refine⟨T,c,hc,?_⟩;rcases q with⟨k,_⟩|⟨_,c',Z,z⟩
     .have k':X.env.scope.names.lookup x=some .local:=k;rcases J with w|w<;>(rw[k']at w;cases w)
     .have:c'=c:=by have:=h x c hc;rw[Z]at this;exact QaG this
      subst this;obtain⟨O,C,hd⟩:=z;exact⟨O,f _ _ C,hd⟩
 .obtain⟨v,O,C,hd⟩:=I.cell x c (h _ _ e);exact⟨v,O,f _ _ C,hd⟩
 .have Y:p∈X.pn++pins:=by
   have:p∈(X.pn++pins)++[]:=hp;simpa using this
  obtain⟨U,a2,a3,a4,a5⟩:=I.pin p Y;refine⟨f _ _ U,a2,?_,λB=>?_,a5⟩
  .show p.1≠s.heap.objs.size;exact QaK (lt _ _ U)
  .rcases Qad.mp (nofr _ B)with z|z
   .exact a3 z
   .exact a4 z
 .show(nE tgs.length fr σ).length=(gA tgs fr X.N).length;simp[nE,gA]
def PTs(X:Cx)(ifs:Ab Ag)(t:TT):Prop :=
 ∀(pins:Ab (Af×Obj)) (s:Ac) (σ:St) (H:Hp) (Q:Bool->Hp->Prop),Inv X pins σ H s->t σ H Q ->
  wpAny (model X.prog X.w) X.A (forIn ifs true λc r=>if r=true then do let ok <- isTrue c X.env (eval c X.env);pure (ForInStep.yield ok) else pure (ForInStep.yield r)) (TP X pins σ Q) X.xe s
def Z9K:TT:=λ_ H Q=>Q true H
def Z71:PTs X [] Z9K:=λpins s σ H Q I h=>wpAny_tests_nil ⟨H,I,h⟩
def Z70(h:PT X c t):PTs X [c] t:=λpins s σ H Q I q=>wpAny_tests_one (h pins s σ H Q I q)
def Z8t(J:It)(k:Nat)(fr:Ab Nat)(g:TG)(tt:TT)(te:TE)(σ:St)(H1:Hp)(Q:VK):Prop :=
 ∀acc,H1 acc=none->∃W:Nat->Nat->Ab V->Hp->Prop,(∃m,W 0 m [] (upd H1 acc (.lst [])))/\∀i m ys H,W i m ys H->H acc=some (.lst ys) /\
  ((J.stop i H /\ Q (.ref acc) H) \/ (J.go i H /\ ∀ x H', J.yld i H x H' -> g x (nE k fr σ) H' fun σ2 H2 => (σ2.drop k = (nE k fr σ).drop k /\ σ2.length = (nE k fr σ).length) /\ tt σ2 H2 fun b H3 => if b = true then te σ2 H3 fun y H4 => ∃ ys', H4 acc = some (.lst ys') /\ ys'.length < sizeLine /\
   ∃m',m'<m/\W (i+1) m' (ys'++[y]) (upd H4 acc (.lst (ys'++[y]))) else ∃m' ys',m'<m/\W (i+1) m' ys' H3))
def Z3R(wi:TI)(k:Nat)(fr:Ab Nat)(g:TG)(tt:TT)(te:TE):TE:=λσ H Q=>wi σ H λJ H1=>Z8t J k fr g tt te σ H1 Q
def Y2{cl:Ab (Str×Af)}{R:VK}{E:Ad->Ac->Prop}{RR:Ad->Af->Result->Ac->Prop}(I2:Inv X pins σ H s)(T:Z1c X.prog X.w X.K tg J fp it tn)(a3:tn 0 s.heap)(f2:∀b∈fp,zW X pins H b)(hc:X.calm=true)
  (chk:iS X.env.scope X.N scope fr=true)
  (a2:∀n c,cl.lookup n=some c->X.env.cells.lookup n=some c) (hcl2:∀n,(n,NameKind.free)∈scope.names->∃c,cl.lookup n=some c)
  (hg:∀cl C s0 H0 ex pins,PG (gO X (gA tgs fr X.N) scope cl C s0 H0 ex pins) tg g)
  (ht:∀cl C s0 H0 ex pins,PTs (gO X (gA tgs fr X.N) scope cl C s0 H0 ex pins) ifs tt)
  (he:∀cl C s0 H0 ex pins,PE (gO X (gA tgs fr X.N) scope cl C s0 H0 ex pins) elt te)
  (rd:Z8t J tgs.length fr g tt te σ H R)
  (fin:∀D C s' Hend m,Inv X pins σ Hend s'->s'.heap.Ns C m->Hend C=none->C≠X.env.locals->X.s₀.heap.objs.size<=C->(∀x c,X.env.cells.lookup x=some c->c≠C)->(∀p∈X.pn++pins,p.1≠C)->R (.ref D) Hend->RR (.ref D) C (.ok .next) s') :
  wpAny (model X.prog X.w) X.A (newList []) (λacc s₃=>wpAny (model X.prog X.w) X.A (newFunctionEnv scope X.env.globals cl [] X.env.qual none .none (some X.env)) (λa4 s₄ =>
   codeAny (model X.prog X.w) X.A (.compStart (.ListComp elt [⟨tg,iter,ifs,0⟩] scope pos) 0 (.ref it) acc { a4 with scope:=relabel scope X.env }) (RR acc a4.locals) s₄) E s₃) E s:=by
 have a1:=chk;simp only[iS,Qam,QaS]at a1;obtain⟨⟨⟨⟨c1,c2⟩,c3⟩,c4⟩,c5⟩:=a1;have hkind:scope.kind=.function:=by simpa using c1
 have hcell:∀y∈scope.names,y.2 ≠ .cell:=λy hy=>by simpa using c2 y hy
 refine Re (wpAny_newFunctionEnv hcell (by intro y hy;simp at hy) (λh₁ hns₁ hsb₁=>?_) hkind);have B:Inv X pins σ (upd H s.heap.objs.size (.lst [])) { s with heap:=s.heap.push { cls:=.type "list",data:=.seq ([]:Ab Ad).toArray } }:=I2.lnew (t':=s.toks) (its:=[]) .nil (QaY _);generalize hs3:({ s with heap:=s.heap.push { cls:=.type "list",data:=.seq ([]:Ab Ad).toArray } }:Ac)=s3 at B hns₁ hsb₁ ⊢;have Q:s3.heap=s.heap.push { cls:=.type "list",data:=.seq ([]:Ab Ad).toArray }:=by rw[<- hs3]
 have O:∀b o,s.heap.get? b=some o->s3.heap.get? b=some o:=λb o e=>by rw[Q];exact Qag _ e
 have M:s3.heap.objs.size=s.heap.objs.size+1:=by rw[Q,Qbj]
 have a5:∀b∈fp,b<s.heap.objs.size:=λb f=>by
  obtain⟨o,e,_⟩:=T.obj 0 _ a3 b f;exact Qal e
 have upn:∀{b:Af},b<s.heap.objs.size->upd H s.heap.objs.size (.lst []) b=H b:=λf=>bB (QaK f);have L:∀b∈fp,zW X pins (upd H s.heap.objs.size (.lst [])) b:=λb f=>⟨by rw[upn (a5 b f)];exact(f2 b f).1,(f2 b f).2⟩;have t:∀b o,s3.heap.get? b=some o->h₁.get? b=some o:=λb o e=>hsb₁.extBut b o (QaK (Qal e)) (Qag _ e);have I4:=Z5c (tgs:=tgs) (h':=h₁) (tk:=s3.toks+([]:Ab (Str×Ad)).length) (ex:=fp) B chk a2 hcl2 (by simpa using hns₁) t (λb f=>⟨L b f,by rw[M];exact Nat.lt_succ_of_lt (a5 b f)⟩);obtain⟨W,⟨m0,w0⟩,G⟩:=rd s.heap.objs.size I2.fresh;generalize hX':gO X (gA tgs fr X.N) scope cl s3.heap.objs.size s3 (upd H s.heap.objs.size (.lst [])) fp pins=X' at I4;have Y:X'.A=X.A:=by rw[<- hX'];rfl
 have S:X'.prog=X.prog:=by rw[<- hX'];rfl
 have U:X'.w=X.w:=by rw[<- hX'];rfl
 have eK:X'.K=X.K:=by rw[<- hX'];rfl
 have eC:X'.calm=true:=by rw[<- hX'];exact hc
 have eX:X'.xe=λ_ _=>False:=by rw[<- hX'];rfl
 have F:X'.env=compEnvC scope cl s3.heap.objs.size X.env:=by rw[<- hX'];rfl
 have hg':PG X' tg g:=by rw[<- hX'];exact hg _ _ _ _ _ _
 have ht':PTs X' ifs tt:=by rw[<- hX'];exact ht _ _ _ _ _ _
 have he':PE X' elt te:=by rw[<- hX'];exact he _ _ _ _ _ _
 have Z:∀{H':Hp},(∀b∈fp,H' b=none)->∀b∈fp,zW X' [] H' b:=λ{H'} hn b f=>by
  rw[<- hX'];obtain⟨_,z2,z3,z4,z5,z6⟩:=L b f;refine⟨hn b f,?_,λhf=>?_,.inl f,λx c e=>z5 x c (a2 _ _ e),λp hp=>z6 p (by have:p∈(X.pn++pins)++[]:=hp;simpa using this)⟩
  .show b≠s3.heap.objs.size;rw[M];exact QaK (Nat.lt_succ_of_lt (a5 b f))
  .rcases Qad.mp (B.stkSub b hf)with z|z
   .exact z2 z
   .exact z3 z
 have a0:codeAny (model X.prog X.w) X.A (.compLoop (.ListComp elt [⟨tg,iter,ifs,0⟩] scope pos) 0 (.ref it) (.ref s.heap.objs.size) (compEnvC scope cl s3.heap.objs.size X.env))
   (RR (.ref s.heap.objs.size) s3.heap.objs.size) { s3 with heap:=h₁,toks:=s3.toks+([]:Ab (Str×Ad)).length }:=by
  refine O5 (λn s'=>∃i ys H',Inv X' [] (nE tgs.length fr σ) H' s'/\tn i s'.heap/\(∀b∈fp,H' b=none)/\W i n ys H') ?_ m0
   ⟨0,[],upd H s.heap.objs.size (.lst []),I4,T.keep _ _ _ a3 λb f o e=>t _ _ (O _ _ e),λb f=>(L b f).1,w0⟩
  rintro n s5 ⟨i,ys,H5,I5,st5,fr5,w5⟩;obtain⟨hacc,G⟩:=G i n ys H5 w5;rcases G with⟨stop,q⟩|⟨go,step⟩
  .have d:=T.done X' S U eK eC i [] s5 (nE tgs.length fr σ) H5 (λ_ _=>False) I5 (Z fr5) st5 stop;rw[Y]at d;refine Rc d (λr s6 ⟨hr,I6⟩=>?_) λ_ _ z=>z.elim;subst hr;have h:=I6;rw[<- hX']at h;have un6:Un (frs X.stack) fp (upd H s.heap.objs.size (.lst [])) H5 s3.heap s6.heap:=h.base;have I7:Inv X pins σ H5 s6:=B.call' h.os un6 (by have:=h.hok;exact this) h.bare λb f=>⟨(L b f).2.2.2.1,(L b f).2.1,(L b f).2.2.2.2.1,(L b f).2.2.2.2.2⟩;obtain⟨m,I,_⟩:=h.loc;refine fin _ _ s6 H5 m I7 I h.free ?_ ?_ ?_ ?_ q
   .exact λz=>by have:=B.lt;rw[<- z]at this;exact Qa9 _ this
   .exact B.sz
   .intro x c e z;obtain⟨v,oc,hoc,_⟩:=B.cell x c e;have:=Qal hoc;rw[z]at this;exact Qa9 _ this
   .intro p hp z;have:=Qal (B.pin p hp).1;rw[z]at this;exact Qa9 _ this
  .have d:=T.item X' S U eK eC i [] s5 (nE tgs.length fr σ) H5 (λ_ _=>False) I5 (Z fr5) st5 go;rw[Y]at d;refine Rc d (λr s6 ⟨u,hr,h6⟩=>?_) λ_ _ z=>z.elim;subst hr;refine Rc h6 (λ_ s7 ⟨x,H7,I7,r7,y7,st7,fr7⟩=>?_) λ_ _ z=>z.elim;have I7':=I7.pinned (Z fr7) (T.obj _ _ st7);have a:=hg' _ s7 _ H7 x u _ I7' r7 (step x H7 y7);rw[F,Y,S,U,eX]at a;refine Rc a (λ_ s8 ⟨σ8,H8,I8,⟨kp,kl⟩,q8⟩=>?_) λ_ _ z=>z.elim;have b:=ht' _ s8 σ8 H8 _ I8 q8;rw[F,Y,S,U,eX]at b;refine Rc b (λok s9 ⟨H9,I9,q9⟩=>?_) λ_ _ z=>z.elim;have P:∀{l:Ac}{H10:Hp}{ys10:Ab V}{m':Nat},Inv X' ([]++xK fp s7.heap) σ8 H10 l->m'<n->W (i+1) m' ys10 H10 ->
     ∃m,m<n/\∃i ys H',Inv X' [] (nE tgs.length fr σ) H' l/\tn i l.heap/\(∀b∈fp,H' b=none)/\W i m ys H':=λ{l H10 ys10 m'} I10 I w10=>by
    refine⟨m',I,i+1,ys10,H10,I10.unpinned.weak kl.symm (λj v e=>?_),T.keep _ _ _ st7 λb f o e=>(I10.pin (b,o) (Qae _ (Qae _ (mS f e)))).1,λb f=>?_,w10⟩
    .by_cases hj:j<tgs.length
     .unfold nE at e;rw[QaB (by simpa using hj),Qba,if_pos hj]at e;cases e
     .have e1:(σ8.drop tgs.length)[j-tgs.length]?=some (some v):=by
       rw[kp,List.getElem?_drop];rw[show tgs.length+(j-tgs.length)=j by omega];exact e
      rw[List.getElem?_drop,show tgs.length+(j-tgs.length)=j by omega]at e1;exact e1
    .obtain⟨o,e,d⟩:=T.obj _ _ st7 b f;exact(I10.pin (b,o) (Qae _ (Qae _ (mS f e)))).2.1
   cases ok with
   |false =>
    rw[if_neg (by decide)]at q9 ⊢;obtain⟨m',a6,I,w9⟩:=q9;exact P I9 I w9
   |true =>
    rw[if_pos rfl]at q9 ⊢;have c:=he' _ s9 σ8 H9 _ I9 q9;rw[F,Y,S,U,eX]at c;refine Rc c (λy l ⟨v10,H10,I10,r10,a6,ha10,hl10,m',I,w10⟩=>?_) λ_ _ z=>z.elim;have d:=pA (X:=X') _ l σ8 H10 (.ref s.heap.objs.size) [v10] (.ref s.heap.objs.size) [y] (λ_ H11=>W (i+1) m' (a6++[v10]) H11) I10 rfl (.cons r10 .nil) ⟨_,a6,v10,rfl,rfl,ha10,hl10,w10⟩;rw[Y,S,U,eX]at d;refine Rc d (λ_ s11 ⟨_,H11,I11,_,w11⟩=>P I11 I w11) λ_ _ z=>z.elim
 exact codeAny_compStart_list a0 (T.self _ 0 _ _ _ (T.keep _ _ _ a3 λb f o e=>t _ _ (O _ _ e)) a0)
def Z78(hc:X.calm=true)(f:iS X.env.scope X.N scope fr=true)(hi:PI X tg iter wi)
  (F:∀cl C s0 H0 ex pins,PG (gO X (gA tgs fr X.N) scope cl C s0 H0 ex pins) tg g)
  (B:∀cl C s0 H0 ex pins,PTs (gO X (gA tgs fr X.N) scope cl C s0 H0 ex pins) ifs tt)
  (he:∀cl C s0 H0 ex pins,PE (gO X (gA tgs fr X.N) scope cl C s0 H0 ex pins) elt te)
  (hs:∀x,foldedSetIterable iter X.env x=pure x:=by intro _;rfl) :
  PE X (.ListComp elt [⟨tg,iter,ifs,0⟩] scope pos) (Z3R wi tgs.length fr g tt te):=by
 intro pins s σ H Q I h;have a:=f;simp only[iS,Qam,QaS]at a;obtain⟨⟨⟨⟨O,Z⟩,G⟩,W⟩,y⟩:=a;obtain⟨cl,u,p,l⟩:=yP (scope:=scope) (env:=X.env) λn i=>I.ok.has n (by have:=G _ i;show X.env.scope.names.lookup n=_\/X.env.scope.names.lookup n=_;simpa using this);rw[eval_ListComp];refine wpAny_comprehension_free (use:=none) rfl hs u (by simpa using O) (λx hx hl=>by have:=y x hx;rw[hl]at this;simpa using this) (thn (hi pins s σ H _ I h) λx s1 h1=>thn h1 λitv s2 h2=>?_);obtain⟨it,fp,Y,J,U,rfl,E,T,r,K,S⟩:=h2;refine Y2 (R:=Q) (RR:=λacc C=>compPost (model X.prog X.w) X.A X.xe none (EP X pins σ Q) acc C) E T r K hc f p l F B he S ?_;intro D C s' j m M i P L t v hps q;exact⟨m,i,λh' hs'=>⟨.ref D,j,M.turned (t':=s'.toks) (λb o hb e=>hs'.extBut b o hb e) P L (.inr t) v hps,rfl,q⟩⟩
def Z0t(hc:X.calm=true)(hN:X.N.Nodup)(M:X.N[i]?=some x)(t:Loc X.env.scope x)(j:iS X.env.scope X.N scope fr=true)(hi:PI X tg iter wi)
  (Y:∀cl C s0 H0 ex pins,PG (gO X (gA tgs fr X.N) scope cl C s0 H0 ex pins) tg g)
  (U:∀cl C s0 H0 ex pins,PTs (gO X (gA tgs fr X.N) scope cl C s0 H0 ex pins) ifs tt)
  (he:∀cl C s0 H0 ex pins,PE (gO X (gA tgs fr X.N) scope cl C s0 H0 ex pins) elt te)
  (P:swapsWith (.ListComp elt [⟨tg,iter,ifs,0⟩] scope pos) (some (.Name x pos')) spos.line X.env=pure true)
  (hf:X.fn x=true\/X.env.scope.names.lookup x=some .local:=by first|exact .inl rfl|exact .inr rfl|assumption)
  (hs:∀x,foldedSetIterable iter X.env x=pure x:=by intro _;rfl) :
  PS X (.Assign [.Name x pos'] (.ListComp elt [⟨tg,iter,ifs,0⟩] scope pos) spos) (Z2e (Z3R wi tgs.length fr g tt te) (D5 i)):=by
 intro pins s σ H D I h;have f:=j;simp only[iS,Qam,QaS]at f;obtain⟨⟨⟨⟨c1,c2⟩,Z⟩,c4⟩,S⟩:=f;obtain⟨cl,K,E,B⟩:=yP (scope:=scope) (env:=X.env) λn r=>I.ok.has n (by have:=Z _ r;show X.env.scope.names.lookup n=_\/X.env.scope.names.lookup n=_;simpa using this);rw[exec_Assign_Name_used _ _ _ _ P];refine Ra (wpAny_standAt (Ra ?_));show wpAny _ X.A (do let _ <- comprehension (.ListComp elt [⟨tg,iter,ifs,0⟩] scope pos) scope X.env _ (newList []) false (eval iter X.env) (some (assign (.Name x pos') X.env))) _ _ s
 refine Ra (Rc (wpAny_comprehension_free (use:=some (assign (.Name x pos') X.env)) (Q:=λ_ s'=>SP X pins D .next s') rfl hs K (by simpa using c1) (λx t hl=>by have:=S x t;rw[hl]at this;simpa using this)
  (thn (hi pins s σ H _ I h) λx s1 h1=>thn h1 λitv s2 h2=>?_)) (λ_ s' hq=>Rb (Rb hq)) λ_ _ e=>e)
 obtain⟨it,fp,tn,J,H2,rfl,W,T,F,f2,rd⟩:=h2;refine Y2 (RR:=λacc C=>compPost (model X.prog X.w) X.A X.xe (some (assign (.Name _ pos') X.env)) (λ_ s'=>SP X pins D .next s') acc C) W T F f2 hc j E B Y U he rd ?_;intro p C s' y m I' r R L G l hps q;show wpAny _ X.A (assign (.Name _ pos') X.env (.ref p)) _ _ s';refine wpAny_assign_Name (A6 I' hN M t (v:=.ref p) (u:=.ref p) rfl (λs'' I'' ⟨a,hsa,ha⟩=>?_) hf);have O:C≠a:=by
  rcases ha with z|z
  .rw[z];exact L
  .exact λe=>l _ _ z e.symm
 exact⟨m,r.sameBut hsa O,λh' hs'=>⟨_,y,I''.turned (t':=s''.toks) (λb o hb e=>hs'.extBut b o hb e) R L (.inr G) l hps,q⟩⟩
end L2
namespace PD
open PySem PySem.Spec PyProof.Rows L2
inductive D where
 |non|bl (b:Bool)|int (i:Int)|str (x:Str)|tup (xs:List D)|lst (xs:List D)|obj (C:Addr) (ns:List Str) (xs:List D)|dk (ks:List Key) (xs:List D)|dt (ks:List (List Key)) (xs:List D)|exc (C:Addr)|fn (a:Addr) (vs:List V) (xs:List D)
def nW(a:Af)(cls:Ad):Ah->Prop:=λh=>∃oe vs,h.get? a=some oe/\oe.cls=cls/\oe.data=.fields vs
mutual
def flat:D->Bool
 | .non=>true
 | .bl _=>true
 | .int _=>true
 | .str _=>true
 | .tup xs=>flats xs
 | .lst _=>false
 | .obj _ _ _=>false
 | .dk _ _=>false
 | .dt _ _=>false
 | .exc _=>false
 | .fn _ _ _=>false
def flats:Ab D->Bool
 |[]=>true
 |x::r=>flat x&&flats r
end
def FzL(K:Frag)(H:Hp)(a:Af)(vs:Ab V):Prop:=(∃o,H a=some (.frz o (.lst vs))) \/
  ∃(o:Obj) (its:Ae Ad) (n:Nat),K.lookup a=some o/\o.cls=.type "list" /\ o.dict=none/\o.data=.seq its n/\its.size<=sizeLine/\Vals vs its.toList
def FzL.sq{K:Frag}{H:Hp}{a:Af}{vs:Ab V}(h:FzL K H a vs):SqL K H a vs:=by
 rcases h with⟨o,h⟩|h
 .exact .inl (.inr ⟨o,h⟩)
 .exact .inr h
def Z3V{K:Frag}{H:Hp}{a:Af}{vs:Ab V}(h:SqL K H a vs):H a=some (.lst vs)\/FzL K H a vs:=by
 rcases h with(h|⟨o,h⟩)|h
 .exact .inl h
 .exact .inr (.inl ⟨o,h⟩)
 .exact .inr (.inr h)
mutual
def Rep(K:Frag)(st:Bool)(H:Hp):D->V->Ab Af->Prop
 | .non,v,fp=>v=.non/\fp=[]
 | .bl b,v,fp=>v=.bl b/\fp=[]
 | .int i,v,fp=>v=.int i/\fp=[]
 | .str x,v,fp=>v=.str x/\fp=[]
 | .tup ds,v,fp=>∃a vs,v=.ref a/\SqT K H a vs/\Reps K st H ds vs fp
 | .lst ds,v,fp=>∃a vs fp',v=.ref a/\Reps K st H ds vs fp'/\((fp=a::fp'/\H a=some (.lst vs))\/(st=false/\fp=fp'/\FzL K H a vs))
 | .obj C ns ds,v,fp=>∃a dx vs fp',v=.ref a/\fp=a::dx::fp'/\H a=some (.ins C dx (ns.zip vs))/\H dx=some (.own a)/\ns.length=vs.length/\Reps K st H ds vs fp'
 | .dk ks ds,v,fp=>∃a vs fp',v=.ref a/\fp=a::fp'/\H a=some (.dK (ks.zip vs))/\ks.length=vs.length/\Reps K st H ds vs fp'
 | .dt ks ds,v,fp=>∃a es ep vs fp',v=.ref a/\es.map (·.1)=ks/\es.map (·.2.2)=vs/\(∀e∈es,SqT K H e.2.1 (e.1.map kV))/\Reps K st H ds vs fp'/\((fp=a::fp'/\H a=some (.dE es ep))\/(st=false/\fp=fp'/\∃o,H a=some (.frz o (.dE es ep))))
 | .exc C,v,fp=>∃a,v=.ref a/\fp=[a]/\H a=some (.ext (nW a (.ref C)))
 | .fn a vs ds,v,fp=>v=.ref a/\Reps K st H ds vs fp
def Reps(K:Frag)(st:Bool)(H:Hp):Ab D->Ab V->Ab Af->Prop
 |[],vs,fp=>vs=[]/\fp=[]
 |d::ds,vs,fp=>∃v r f1 f2,vs=v::r/\fp=f1++f2/\Rep K st H d v f1/\Reps K st H ds r f2
end
section
variable {K:Frag}{st:Bool}{H H':Hp}
structure Kp(fp:List Addr)(H H':Hp):Prop where
 fps:∀b∈fp,∀o,H b=some o->H' b=some o
 tup:∀b xs,H b=some (.tup xs)->H' b=some (.tup xs)
 frz:∀b o u,H b=some (.frz o u)->H' b=some (.frz o u)
def Kp.same(e:Same H H')(fp:Ab Af):Kp fp H H':=⟨λb _ o h=>e b o h,λb xs h=>e _ _ h,λb o u h=>e _ _ h⟩
def Kp.sub(k:Kp fp H H')(h:∀b∈fp',b∈fp):Kp fp' H H':=⟨λb hb=>k.fps b (h b hb),k.tup,k.frz⟩
theorem Kp.upd(h:H a=some o)(n:∀xs,o ≠ .tup xs)(l:∀x u,o ≠ .frz x u)(i:a∉fp):Kp fp H (L2.upd H a o') :=
 ⟨fun b j u e => by have f : b ≠ a := (fun z => i (by rw [<- z]; exact j)); rw [bB f]; exact e,
  λb xs e=>by rw[bB (λz=>by rw[z,h]at e;exact n xs (QaG e))];exact e,
  λb x u e=>by rw[bB (λz=>by rw[z,h]at e;exact l x u (QaG e))];exact e⟩
def Z0a(k:Kp fp H H'){a:Af}{xs:Ab V}(h:SqT K H a xs):SqT K H' a xs:=by
 rcases h with(h|⟨o,h⟩)|h
 .exact .inl (.inl (k.tup _ _ h))
 .exact .inl (.inr ⟨o,k.frz _ _ _ h⟩)
 .exact .inr h
def Z9s(k:Kp fp H H'){a:Af}{xs:Ab V}(h:FzL K H a xs):FzL K H' a xs:=by
 rcases h with⟨o,h⟩|h
 .exact .inl ⟨o,k.frz _ _ _ h⟩
 .exact .inr h
mutual
theorem Rep.keep:∀(d:D) (v:V) (fp:Ab Af),Kp fp H H'->Rep K st H d v fp->Rep K st H' d v fp
 | .non,v,fp,_,h=>by simpa only [Rep]using h
 | .bl b,v,fp,_,h=>by simpa only [Rep]using h
 | .int i,v,fp,_,h=>by simpa only [Rep]using h
 | .str x,v,fp,_,h=>by simpa only [Rep]using h
 | .tup ds,v,fp,k,h=>by
  simp only[Rep]at h ⊢;obtain⟨a,vs,e,hs,hr⟩:=h;exact⟨a,vs,e,Z0a k hs,Reps.keep ds vs fp k hr⟩
 | .lst ds,v,fp,k,h=>by
  simp only[Rep]at h ⊢;obtain⟨a,vs,fp',e,hr,hs⟩:=h;rcases hs with⟨rfl,hs⟩|⟨h1,rfl,hs⟩
  .exact⟨a,vs,fp',e,Reps.keep ds vs fp' (k.sub λb hb=>Qaa _ hb) hr,.inl ⟨rfl,k.fps a Qai _ hs⟩⟩
  .exact⟨a,vs,fp,e,Reps.keep ds vs fp k hr,.inr ⟨h1,rfl,Z9s k hs⟩⟩
 | .obj C ns ds,v,fp,k,h=>by
  simp only[Rep]at h ⊢;obtain⟨a,dx,vs,fp',e,rfl,hs,hd,hl,hr⟩:=h;exact⟨a,dx,vs,fp',e,rfl,k.fps a Qai _ hs,k.fps dx (Qaa _ Qai) _ hd,hl,Reps.keep ds vs fp' (k.sub λb hb=>Qaa _ (Qaa _ hb)) hr⟩
 | .dk ks ds,v,fp,k,h=>by
  simp only[Rep]at h ⊢;obtain⟨a,vs,fp',e,rfl,hs,hl,hr⟩:=h;exact⟨a,vs,fp',e,rfl,k.fps a Qai _ hs,hl,Reps.keep ds vs fp' (k.sub λb hb=>Qaa _ hb) hr⟩
 | .dt ks ds,v,fp,k,h=>by
  simp only[Rep]at h ⊢;obtain⟨a,es,ep,vs,fp',e,hk,hv,ht,hr,hs⟩:=h;rcases hs with⟨rfl,hs⟩|⟨h1,rfl,o,hs⟩
  .exact⟨a,es,ep,vs,fp',e,hk,hv,λe he=>Z0a k (ht e he),Reps.keep ds vs fp' (k.sub λb hb=>Qaa _ hb) hr,.inl ⟨rfl,k.fps a Qai _ hs⟩⟩
  .exact⟨a,es,ep,vs,fp,e,hk,hv,λe he=>Z0a k (ht e he),Reps.keep ds vs fp k hr,.inr ⟨h1,rfl,o,k.frz _ _ _ hs⟩⟩
 | .exc C,v,fp,k,h=>by
  simp only[Rep]at h ⊢;obtain⟨a,e,rfl,hs⟩:=h;exact⟨a,e,rfl,k.fps a Qai _ hs⟩
 | .fn a vs ds,v,fp,k,h=>by
  simp only[Rep]at h ⊢;exact⟨h.1,Reps.keep ds vs fp k h.2⟩
theorem Reps.keep:∀(ds:Ab D) (vs:Ab V) (fp:Ab Af),Kp fp H H'->Reps K st H ds vs fp->Reps K st H' ds vs fp
 |[],vs,fp,_,h=>by simpa only [Reps]using h
 |d::ds,vs,fp,k,h=>by
  simp only[Reps]at h ⊢;obtain⟨v,r,f1,f2,e1,rfl,h1,h2⟩:=h;exact⟨v,r,f1,f2,e1,rfl,Rep.keep d v f1 (k.sub λb hb=>Qan _ hb) h1,Reps.keep ds r f2 (k.sub λb hb=>Qae _ hb) h2⟩
end
theorem Rep.same(e:Same H H')(h:Rep K st H d v fp):Rep K st H' d v fp:=Rep.keep d v fp (Kp.same e fp) h
theorem Reps.same(e:Same H H')(h:Reps K st H ds vs fp):Reps K st H' ds vs fp:=Reps.keep ds vs fp (Kp.same e fp) h
mutual
theorem Rep.dom:∀(d:D) (v:V) (fp:Ab Af),Rep K st H d v fp->∀b∈fp,∃o,H b=some o
 | .non,v,fp,h,b,hb=>by simp only[Rep]at h;rw[h.2]at hb;cases hb
 | .bl _,v,fp,h,b,hb=>by simp only[Rep]at h;rw[h.2]at hb;cases hb
 | .int _,v,fp,h,b,hb=>by simp only[Rep]at h;rw[h.2]at hb;cases hb
 | .str _,v,fp,h,b,hb=>by simp only[Rep]at h;rw[h.2]at hb;cases hb
 | .tup ds,v,fp,h,b,hb=>by
  simp only[Rep]at h;obtain⟨a,vs,e,hs,hr⟩:=h;exact Reps.dom ds vs fp hr b hb
 | .lst ds,v,fp,h,b,hb=>by
  simp only[Rep]at h;obtain⟨a,vs,fp',e,hr,hs⟩:=h;rcases hs with⟨rfl,hs⟩|⟨_,rfl,hs⟩
  .rcases Qad.mp hb with z|z
   .exact⟨_,z ▸ hs⟩
   .exact Reps.dom ds vs fp' hr b z
  .exact Reps.dom ds vs fp hr b hb
 | .obj C ns ds,v,fp,h,b,hb=>by
  simp only[Rep]at h;obtain⟨a,dx,vs,fp',e,rfl,hs,hd,hl,hr⟩:=h;rcases Qad.mp hb with z|z
  .exact⟨_,z ▸ hs⟩
  .rcases Qad.mp z with z|z
   .exact⟨_,z ▸ hd⟩
   .exact Reps.dom ds vs fp' hr b z
 | .dk ks ds,v,fp,h,b,hb=>by
  simp only[Rep]at h;obtain⟨a,vs,fp',e,rfl,hs,hl,hr⟩:=h;rcases Qad.mp hb with z|z
  .exact⟨_,z ▸ hs⟩
  .exact Reps.dom ds vs fp' hr b z
 | .dt ks ds,v,fp,h,b,hb=>by
  simp only[Rep]at h;obtain⟨a,es,ep,vs,fp',e,hk,hv,ht,hr,hs⟩:=h;rcases hs with⟨rfl,hs⟩|⟨_,rfl,o,hs⟩
  .rcases Qad.mp hb with z|z
   .exact⟨_,z ▸ hs⟩
   .exact Reps.dom ds vs fp' hr b z
  .exact Reps.dom ds vs fp hr b hb
 | .exc C,v,fp,h,b,hb=>by
  simp only[Rep]at h;obtain⟨a,e,rfl,hs⟩:=h;rw[Qay.mp hb];exact⟨_,hs⟩
 | .fn a vs ds,v,fp,h,b,hb=>by
  simp only[Rep]at h;exact Reps.dom ds vs fp h.2 b hb
theorem Reps.dom:∀(ds:Ab D) (vs:Ab V) (fp:Ab Af),Reps K st H ds vs fp->∀b∈fp,∃o,H b=some o
 |[],vs,fp,h,b,hb=>by simp only[Reps]at h;rw[h.2]at hb;cases hb
 |d::ds,vs,fp,h,b,hb=>by
  simp only[Reps]at h;obtain⟨v,r,f1,f2,e1,rfl,h1,h2⟩:=h;rcases Qah.mp hb with z|z
  .exact Rep.dom d v f1 h1 b z
  .exact Reps.dom ds r f2 h2 b z
end
mutual
theorem Rep.flat:∀(d:D) (v:V) (fp:Ab Af),PD.flat d=true->Rep K st H d v fp->fp=[]/\∀st',Rep K st' H d v []
 | .non,v,fp,_,h=>by simp only[Rep]at h ⊢;exact⟨h.2,λ_=>⟨h.1,trivial⟩⟩
 | .bl _,v,fp,_,h=>by simp only[Rep]at h ⊢;exact⟨h.2,λ_=>⟨h.1,trivial⟩⟩
 | .int _,v,fp,_,h=>by simp only[Rep]at h ⊢;exact⟨h.2,λ_=>⟨h.1,trivial⟩⟩
 | .str _,v,fp,_,h=>by simp only[Rep]at h ⊢;exact⟨h.2,λ_=>⟨h.1,trivial⟩⟩
 | .tup ds,v,fp,f,h=>by
  simp only[Rep]at h ⊢;obtain⟨a,vs,e,hs,hr⟩:=h;obtain⟨h1,h2⟩:=Reps.flat ds vs fp (by simpa only [PD.flat]using f) hr;exact⟨h1,λst'=>⟨a,vs,e,hs,h2 st'⟩⟩
 | .lst ds,v,fp,f,h=>by simp only[PD.flat]at f;cases f
 | .obj C ns ds,v,fp,f,h=>by simp only[PD.flat]at f;cases f
 | .dk ks ds,v,fp,f,h=>by simp only[PD.flat]at f;cases f
 | .dt ks ds,v,fp,f,h=>by simp only[PD.flat]at f;cases f
 | .exc C,v,fp,f,h=>by simp only[PD.flat]at f;cases f
 | .fn a vs ds,v,fp,f,h=>by simp only[PD.flat]at f;cases f
theorem Reps.flat:∀(ds:Ab D) (vs:Ab V) (fp:Ab Af),flats ds=true->Reps K st H ds vs fp->fp=[]/\∀st',Reps K st' H ds vs []
 |[],vs,fp,_,h=>by simp only[Reps]at h ⊢;exact⟨h.2,λ_=>⟨h.1,trivial⟩⟩
 |d::ds,vs,fp,f,h=>by
  simp only[Reps]at h ⊢;simp only[flats,Qam]at f;obtain⟨v,r,f1,f2,e1,rfl,h1,h2⟩:=h;obtain⟨a1,a2⟩:=Rep.flat d v f1 f.1 h1;obtain⟨b1,b2⟩:=Reps.flat ds r f2 f.2 h2;subst a1 b1;exact⟨rfl,λst'=>⟨v,r,[],[],e1,rfl,a2 st',b2 st'⟩⟩
end
mutual
theorem Rep.weak:∀(d:D) (v:V) (fp:Ab Af),Rep K st H d v fp->Rep K false H d v fp
 | .non,v,fp,h=>by simpa only [Rep]using h
 | .bl _,v,fp,h=>by simpa only [Rep]using h
 | .int _,v,fp,h=>by simpa only [Rep]using h
 | .str _,v,fp,h=>by simpa only [Rep]using h
 | .tup ds,v,fp,h=>by
  simp only[Rep]at h ⊢;obtain⟨a,vs,e,hs,hr⟩:=h;exact⟨a,vs,e,hs,Reps.weak ds vs fp hr⟩
 | .lst ds,v,fp,h=>by
  simp only[Rep]at h ⊢;obtain⟨a,vs,fp',e,hr,hs⟩:=h;refine⟨a,vs,fp',e,Reps.weak ds vs fp' hr,?_⟩;rcases hs with hs|⟨_,h1,h2⟩
  .exact .inl hs
  .exact .inr ⟨trivial,h1,h2⟩
 | .obj C ns ds,v,fp,h=>by
  simp only[Rep]at h ⊢;obtain⟨a,dx,vs,fp',e,h1,hs,hd,hl,hr⟩:=h;exact⟨a,dx,vs,fp',e,h1,hs,hd,hl,Reps.weak ds vs fp' hr⟩
 | .dk ks ds,v,fp,h=>by
  simp only[Rep]at h ⊢;obtain⟨a,vs,fp',e,h1,hs,hl,hr⟩:=h;exact⟨a,vs,fp',e,h1,hs,hl,Reps.weak ds vs fp' hr⟩
 | .dt ks ds,v,fp,h=>by
  simp only[Rep]at h ⊢;obtain⟨a,es,ep,vs,fp',e,hk,hv,ht,hr,hs⟩:=h;exact⟨a,es,ep,vs,fp',e,hk,hv,ht,Reps.weak ds vs fp' hr,hs.imp id λ⟨_,h2⟩=>⟨by trivial,h2⟩⟩
 | .exc C,v,fp,h=>by simpa only [Rep]using h
 | .fn a vs ds,v,fp,h=>by
  simp only[Rep]at h ⊢;exact⟨h.1,Reps.weak ds vs fp h.2⟩
theorem Reps.weak:∀(ds:Ab D) (vs:Ab V) (fp:Ab Af),Reps K st H ds vs fp->Reps K false H ds vs fp
 |[],vs,fp,h=>by simpa only [Reps]using h
 |d::ds,vs,fp,h=>by
  simp only[Reps]at h ⊢;obtain⟨v,r,f1,f2,e1,e2,h1,h2⟩:=h;exact⟨v,r,f1,f2,e1,e2,Rep.weak d v f1 h1,Reps.weak ds r f2 h2⟩
end
theorem Reps.length:∀{ds:Ab D}{vs:Ab V}{fp:Ab Af},Reps K st H ds vs fp->vs.length=ds.length
 |[],vs,fp,h=>by simp only[Reps]at h;rw[h.1];rfl
 |d::ds,vs,fp,h=>by
  simp only[Reps]at h;obtain⟨v,r,f1,f,a,b,h1,h2⟩:=h;rw[a,Qaf,Qaf,Reps.length h2]
theorem Reps.get:∀{ds:Ab D}{vs:Ab V}{fp:Ab Af}{i:Nat}{d:D},Reps K st H ds vs fp->ds[i]?=some d->∃v f,vs[i]?=some v/\Rep K st H d v f/\(∀b∈f,b∈fp)/\(fp.Nodup->f.Nodup)
 |[],vs,fp,i,d,h,e=>by simp at e
 |d::ds,vs,fp,i,d',h,e=>by
  simp only[Reps]at h;obtain⟨v,r,f1,p,rfl,rfl,h1,h2⟩:=h;cases i with
  |zero =>
   simp at e;subst e;exact⟨v,f1,rfl,h1,λb hb=>Qan _ hb,λa=>(Qar.mp a).1⟩
  |succ i =>
   obtain⟨w,f,l,o,n,j⟩:=Reps.get h2 (by simpa using e);exact⟨w,f,by simpa using l,o,λb hb=>Qae _ (n b hb),λa=>j (Qar.mp a).2.1⟩
theorem Reps.snoc:∀{ds:Ab D}{vs:Ab V}{fp fd:Ab Af}{d:D}{v:V},Reps K st H ds vs fp->Rep K st H d v fd->Reps K st H (ds++[d]) (vs++[v]) (fp++fd)
 |[],vs,fp,fd,d,v,h,hd=>by
  simp only[Reps]at h;obtain⟨rfl,rfl⟩:=h;simp only[Qbq,Reps];exact⟨v,[],fd,[],rfl,(QaP _).symm,hd,rfl,rfl⟩
 |d'::ds,vs,fp,fd,d,v,h,hd=>by
  simp only[Reps]at h;obtain⟨w,r,f1,a,rfl,rfl,h1,h2⟩:=h;simp only[Qa3,Reps];exact⟨w,r++[v],f1,a++fd,rfl,List.append_assoc ..,h1,Reps.snoc h2 hd⟩
theorem Reps.append:∀{ds es:Ab D}{vs us:Ab V}{fp fd:Ab Af},Reps K st H ds vs fp->Reps K st H es us fd->Reps K st H (ds++es) (vs++us) (fp++fd)
 |[],es,vs,us,fp,fd,h,hd=>by
  simp only[Reps]at h;obtain⟨rfl,rfl⟩:=h;exact hd
 |d'::ds,es,vs,us,fp,fd,h,hd=>by
  simp only[Reps]at h;obtain⟨w,r,f1,a,rfl,rfl,h1,h2⟩:=h;simp only[Qa3,Reps];exact⟨w,r++us,f1,a++fd,rfl,List.append_assoc ..,h1,Reps.append h2 hd⟩
def cC(h:Rep K st H (.lst ds) v fp):∃a vs f,v=.ref a/\SqL K H a vs/\Reps K st H ds vs f/\(∀b∈f,b∈fp):=by
 simp only[Rep]at h;obtain⟨a,vs,f,e,i,hs⟩:=h;rcases hs with⟨rfl,hs⟩|⟨_,rfl,hs⟩
 .exact⟨a,vs,f,e,SqL.of hs,i,λb hb=>Qaa _ hb⟩
 .exact⟨a,vs,fp,e,hs.sq,i,λb hb=>hb⟩
def iX(h:Rep K true H (.lst ds) v fp):∃a vs b,v=.ref a/\fp=a::b/\H a=some (.lst vs)/\Reps K true H ds vs b:=by
 simp only[Rep]at h;obtain⟨a,vs,b,e,f,hs⟩:=h;rcases hs with⟨i,hs⟩|⟨z,_⟩
 .exact⟨a,vs,b,e,i,hs,f⟩
 .cases z
end
abbrev Slot:=Aa (Bool×D)
abbrev En:=Ab Slot
def EnvOk(K:Frag)(H:Hp)(σ:L2.St)(env:En)(F:Nat->Ab Af):Prop :=
 ∀i o d,env[i]?=some (some (o,d))->∃v,σ[i]?=some (some v)/\Rep K false H d v (F i)
theorem EnvOk.same{K:Frag}(h:EnvOk K H σ env F)(e:Same H H'):EnvOk K H' σ env F :=
 λi o d q=>let ⟨v,h1,h2⟩:=h i o d q;⟨v,h1,h2.same e⟩
def Cond(F:Nat->Ab Af)(H:Hp)(m:Bool)(rs:Ab Nat)(fp:Ab Af):Prop:=(∀b∈fp,H b=none\/∃r∈rs,b∈F r)/\(m=true->fp.Nodup/\∀b∈fp,H b=none)
def Cond.nil:Cond F H m rs []:=⟨λb hb=>(by cases hb),λ_=>⟨Qaz,λb hb=>(by cases hb)⟩⟩
def Cond.back(c:Cond F H' m rs fp)(e:Same H H'):Cond F H m rs fp :=
 ⟨λb hb=>(c.1 b hb).imp (λz=>e.free z) id,λa=>⟨(c.2 a).1,λb hb=>e.free ((c.2 a).2 b hb)⟩⟩
def tD(K:Frag)(m:Bool)(rs:Ab Nat)(f:En->Aa D):TE:=λσ H Q =>
 ∃env F d,EnvOk K H σ env F/\f env=some d/\∀v H' fp,Same H H'->Rep K m H' d v fp->Cond F H m rs fp->Q v H'
def tDT(K:Frag)(f:En->Aa Bool):TT:=λσ H Q =>
 ∃env F b,EnvOk K H σ env F/\f env=some b/\∀H',Same H H'->Q b H'
def tDA(K:Frag)(m:Bool)(rs:Ab Nat)(f:En->Aa (Ab D)):TA:=λσ H Q =>
 ∃env F ds,EnvOk K H σ env F/\f env=some ds/\∀vs H' fp,Same H H'->Reps K m H' ds vs fp->Cond F H m rs fp->Q vs H'
def QE(X:Cx)(m:Bool)(rs:Ab Nat)(e:Ag)(f:En->Aa D):Prop:=PE X e (tD X.K m rs f)
def QT(X:Cx)(e:Ag)(f:En->Aa Bool):Prop:=PT X e (tDT X.K f)
def QW(X:Cx)(e:Ag)(f:En->Aa Bool):Prop:=PW X e (tDT X.K f)
def QA(X:Cx)(m:Bool)(rs:Ab Nat)(es:Ab Ag)(f:En->Aa (Ab D)):Prop:=PA X es (tDA X.K m rs f)
section
variable {X:Cx}{m m':Bool}{rs rs':Ab Nat}{e a b c:Ag}{es rest:Ab Ag}{f fa fb:En->Aa D}{g ga gb:En->Aa Bool}{pos:Pos}
def QE.mk(h:PE X e t)(hi:∀σ H Q,tD X.K m rs f σ H Q->t σ H Q):QE X m rs e f:=λpins s σ H Q I q=>h pins s σ H Q I (hi σ H Q q)
def QT.mk(h:PT X e t)(hi:∀σ H Q,tDT X.K g σ H Q->t σ H Q):QT X e g:=λpins s σ H Q I q=>h pins s σ H Q I (hi σ H Q q)
def QW.mk(h:PW X e t)(hi:∀σ H Q,tDT X.K g σ H Q->t σ H Q):QW X e g:=λwhole pins s σ H Q I q=>h whole pins s σ H Q I (hi σ H Q q)
def QW.qt(h:QW X e g):QT X e g:=h.pt
def aD(i:Nat):En->Aa D:=λenv=>(env[i]?).join.map (·.2)
def fC(d:D):En->Aa D:=λ_=>some d
def fI2(C:Int->Int->Prop)(g:Int->Int->D)(fa fb:En->Aa D):En->Aa D:=λenv =>
 match fa env,fb env with
 |some (.int i),some (.int j)=>open Classical in if C i j then some (g i j) else none
 |_,_=>none
def fI0(g:Int->Int->D)(fa fb:En->Aa D):En->Aa D:=λenv =>
 match fa env,fb env with
 |some (.int i),some (.int j)=>some (g i j)
 |_,_=>none
def aZ(f:En->Aa D):En->Aa D:=λenv=>match f env with
 |some d=>if flat d=true then some d else none
 |none=>none
def fB(f:En->Aa D):En->Aa Bool:=λenv=>match f env with
 |some (.bl b)=>some b
 |_=>none
def kR(f:En->Aa Bool):En->Aa D:=λenv=>(f env).map .bl
def iJ(f g:En->Aa Bool):En->Aa Bool:=λenv=>match f env with
 |some true=>g env
 |some false=>some false
 |none=>none
def fOr(f g:En->Aa Bool):En->Aa Bool:=λenv=>match f env with
 |some false=>g env
 |some true=>some true
 |none=>none
def kT(f:En->Aa Bool):En->Aa Bool:=λenv=>(f env).map (!·)
def fIf{α:Type}(c:En->Aa Bool)(f g:En->Aa α):En->Aa α:=λenv=>match c env with
 |some true=>f env
 |some false=>g env
 |none=>none
def aF:En->Aa (Ab D):=λ_=>some []
def aA(f:En->Aa D)(g:En->Aa (Ab D)):En->Aa (Ab D):=λenv=>match f env,g env with
 |some d,some ds=>some (d::ds)
 |_,_=>none
def fT(g:En->Aa (Ab D)):En->Aa D:=λenv=>match g env with
 |some ds=>if ds.length<=1000 then some (.tup ds) else none
 |none=>none
def cW(g:En->Aa (Ab D)):En->Aa D:=λenv=>match g env with
 |some ds=>if ds.length<=1000 then some (.lst ds) else none
 |none=>none
def bP{K:Frag}(h:Rep K m H (.int i) v fp):v=.int i:=by simp only[Rep]at h;exact h.1
def fI{K:Frag}(h:Rep K m H (.bl i) v fp):v=.bl i:=by simp only[Rep]at h;exact h.1
def cP{K:Frag}(h:Rep K m H (.str i) v fp):v=.str i:=by simp only[Rep]at h;exact h.1
def fF{K:Frag}(h:Rep K m H .non v fp):v=.non:=by simp only[Rep]at h;exact h.1
def eR{K:Frag}:Rep K m H (.int i) (.int i) []:=by simp only[Rep];exact⟨trivial,trivial⟩
def nS{K:Frag}:Rep K m H (.bl i) (.bl i) []:=by simp only[Rep];exact⟨trivial,trivial⟩
def kJ{K:Frag}:Rep K m H (.str i) (.str i) []:=by simp only[Rep];exact⟨trivial,trivial⟩
def mQ{K:Frag}:Rep K m H .non .non []:=by simp only[Rep];exact⟨trivial,trivial⟩
def aB(i:Nat){x:Str}(n:X.N[i]?=some x:=by rfl)(a:Vis X.env.scope x:=by first|exact Or.inl rfl|exact Or.inr (Or.inl rfl)|exact Or.inr (Or.inr rfl))(hd:nDb x:=by decide)(f:(x==("__classdict__" : Str))=false:=by decide) :
  QE X false [i] (.Name x pos) (aD i) :=
 .mk (kH n a hd f) λσ H Q ⟨env,F,d,ok,e,q⟩=>by
  unfold aD at e;cases h1:env[i]? with
  |none=>rw[h1]at e;cases e
  |some o =>
   cases o with
   |none=>rw[h1]at e;cases e
   |some p =>
    rw[h1]at e;obtain⟨l,d'⟩:=p;have h:d'=d:=QaG e;subst h;obtain⟨v,a,j⟩:=ok i l d' h1;exact⟨v,a,q v H _ (Same.refl H) j ⟨λb hb=>.inr ⟨i,by simp,hb⟩,λz=>(by cases z)⟩⟩
def aE{i:Int}:QE X m rs (.Constant (.int i) j pos) (fC (.int i)):=.mk pe_int λσ H Q ⟨env,F,d,ok,e,q⟩=>by cases e;exact q _ _ _ (Same.refl H) eR .nil
def uS{i:Bool}:QE X m rs (.Constant (.bool i) j pos) (fC (.bl i)):=.mk Zaf λσ H Q ⟨env,F,d,ok,e,q⟩=>by cases e;exact q _ _ _ (Same.refl H) nS .nil
def aO{i:Str}:QE X m rs (.Constant (.str i) j pos) (fC (.str i)):=.mk Z4H λσ H Q ⟨env,F,d,ok,e,q⟩=>by cases e;exact q _ _ _ (Same.refl H) kJ .nil
def nO{j}:QE X m rs (.Constant .none j pos) (fC .non):=.mk Z9a λσ H Q ⟨env,F,d,ok,e,q⟩=>by cases e;exact q _ _ _ (Same.refl H) mQ .nil
def rF{x:Str}(a:Gl X x)(b:X.mg x=some (.int i t))(hd:nDb x:=by decide):QE X m rs (.Name x pos) (fC (.int i)) :=
 .mk (oW (v:=.int i) a b ⟨t,rfl⟩ hd) λσ H Q ⟨env,F,d,ok,e,q⟩=>by cases e;exact q _ _ _ (Same.refl H) eR .nil
def Z6U{x:Str}(a:Gl X x)(b:X.mg x=some (.str i t))(hd:nDb x:=by decide):QE X m rs (.Name x pos) (fC (.str i)) :=
 .mk (oW (v:=.str i) a b ⟨t,rfl⟩ hd) λσ H Q ⟨env,F,d,ok,e,q⟩=>by cases e;exact q _ _ _ (Same.refl H) kJ .nil
theorem QE.weak(h:QE X true [] e f):QE X false rs e f:=.mk h λσ H Q ⟨env,F,d,ok,e,q⟩ =>
 ⟨env,F,d,ok,e,λv H' fp s r c=>q v H' fp s (Rep.weak _ _ _ r) ⟨λb hb=>(c.1 b hb).imp id λ⟨r,a,_⟩=>(by simp at a),λz=>(by cases z)⟩⟩
def QE.more(h:QE X false rs e f)(hs:∀r∈rs,r∈rs'):QE X false rs' e f:=.mk h λσ H Q ⟨env,F,d,ok,e,q⟩ =>
 ⟨env,F,d,ok,e,λv H' fp s r c=>q v H' fp s r ⟨λb hb=>(c.1 b hb).imp id λ⟨r,a,z⟩=>⟨r,hs r a,z⟩,c.2⟩⟩
def Ro(h:QE X false rs e f)(hs:∀r∈rs,r∈rs':=by simp):QE X false rs' e f:=h.more hs
theorem QE.flat(h:QE X m' rs e f):QE X m rs' e (aZ f):=.mk h λσ H Q ⟨env,F,d,ok,e,q⟩=>by
 unfold aZ at e;cases h1:f env with
 |none=>rw[h1]at e;cases e
 |some d' =>
  rw[h1]at e;by_cases a:PD.flat d'=true
  .simp only[a,Rl]at e;cases e;refine⟨env,F,_,ok,h1,λv H' fp s r c=>?_⟩;obtain⟨i,b⟩:=Rep.flat _ _ _ a r;exact q v H' [] s (b _) .nil
  .simp only[a]at e;cases e
def two{K:Frag}{R:V->V->Hp->Prop}(ok:EnvOk K H σ env F)(a:fa env=some x)(b:fb env=some y)
  (h:∀v u H' f1 f2,Same H H'->Rep K m1 H' x v f1->Rep K m2 H' y u f2->Cond F H m1 rs1 f1->Cond F H m2 rs2 f2->R v u H'):tD K m1 rs1 fa σ H λv H1=>tD K m2 rs2 fb σ H1 λu H2=>R v u H2 :=
 ⟨env,F,x,ok,a,λv H1 f1 s1 r1 c1=>⟨env,F,y,ok.same s1,b,λu H2 f2 s2 r2 c2=>h v u H2 f1 f2 (s1.trans s2) (r1.same s2) r2 c1 (c2.back s1)⟩⟩
variable {m1 m2:Bool}{rs1 rs2:Ab Nat}
def aM{g:Int->Int->Int}(l:OpR X (binaryOp op) (rI C λi j=>.int (g i j)))(n:QE X m1 rs1 a fa)(o:QE X m2 rs2 b fb):QE X m rs (.BinOp a op b pos) (fI2 C (λi j=>.int (g i j)) fa fb) :=
 .mk (pe_op l n o) λσ H Q ⟨env,F,d,ok,e,q⟩=>by
  unfold fI2 at e;split at e
  .rename_i i j f h;split at e
   .rename_i hc;cases e;refine two ok f h λv u H' f1 f2 s r1 r2 _ _=>?_;rw[bP r1,bP r2];exact⟨i,j,rfl,rfl,hc,q _ _ _ s eR .nil⟩
   .cases e
  .cases e
def aY{g:Int->Int->Int}(l:OpR X (binaryOp op) (rI0 λi j=>.int (g i j)))(n:QE X m1 rs1 a fa)(o:QE X m2 rs2 b fb):QE X m rs (.BinOp a op b pos) (fI0 (λi j=>.int (g i j)) fa fb) :=
 .mk (pe_op l n o) λσ H Q ⟨env,F,d,ok,e,q⟩=>by
  unfold fI0 at e;split at e
  .rename_i i j f h;cases e;refine two ok f h λv u H' f1 f2 s r1 r2 _ _=>?_;rw[bP r1,bP r2];exact⟨i,j,rfl,rfl,q _ _ _ s eR .nil⟩
  .cases e
def Z1D{g:Int->Int->Bool}(l:OpR X (compareOp op) (rI0 λi j=>.bl (g i j)))(n:QE X m1 rs1 a fa)(o:QE X m2 rs2 b fb)(p:behindInMarks op b=false):QE X m rs (.Compare a [op] [b] pos) (fI0 (λi j=>.bl (g i j)) fa fb) :=
 .mk (vZ l n o p) λσ H Q ⟨env,F,d,ok,e,q⟩=>by
  unfold fI0 at e;split at e
  .rename_i i j f h;cases e;refine two ok f h λv u H' f1 f2 s r1 r2 _ _=>?_;rw[bP r1,bP r2];exact⟨i,j,rfl,rfl,q _ _ _ s nS .nil⟩
  .cases e
def sV(h:QE X m rs e f)(he:∀whole,isTrue e X.env whole=(do let v <- whole;standAt e.pos;holding [v] (truthy v)):=by intro _;rfl):QT X e (fB f) :=
 .mk (Z4y h he) λσ H Q ⟨env,F,b,ok,e,q⟩=>by
  unfold fB at e;split at e
  .rename_i b' a;cases e;refine⟨env,F,_,ok,a,λv H' fp s r _=>?_⟩;rw[fI r];exact⟨_,rfl,q H' s⟩
  .cases e
def sW{f:CmpOp}(j:OpR X (compareOp f) r)(n:QE X m1 rs1 a fa)(p:QE X m2 rs2 b fb)(t:behindInMarks f b=false)
  (l:∀env x y K H v u f1 f2 Q bb,g env=some bb->fa env=some x->fb env=some y->Rep K m1 H x v f1->Rep K m2 H y u f2->K=X.K->Q (V.bl bb) H->r v u H Q) (o:∀env bb,g env=some bb->∃x y,fa env=some x/\fb env=some y):QT X (.Compare a [f] [b] pos) g :=
 .mk (Z1F j n p t) λσ H Q ⟨env,F,bb,ok,e,q⟩=>by
  obtain⟨x,y,h,i⟩:=o env bb e;exact two ok h i λv u H' f1 f2 s r1 r2 _ _=>l env x y _ H' v u f1 f2 _ bb e h i r1 r2 rfl ⟨_,rfl,q H' s⟩
def fBI(p:Int->Int->Bool)(fa fb:En->Aa D):En->Aa Bool:=λenv=>match fa env,fb env with
 |some (.int i),some (.int j)=>some (p i j)
 |_,_=>none
def K6{f:CmpOp}(h:OpR X (compareOp f) (rI0 λi j=>.bl (p i j)))(l:QE X m1 rs1 a fa)(n:QE X m2 rs2 b fb)(o:behindInMarks f b=false):QT X (.Compare a [f] [b] pos) (fBI p fa fb) :=
 sW h l n o (λenv x y K H v u f1 f2 Q bb e ea eb r1 r2 _ q=>by
  unfold fBI at e;rw[ea,eb]at e;split at e
  .rename_i i j h1 h2;cases h1;cases h2;cases e;rw[bP r1,bP r2];exact⟨i,j,rfl,rfl,q⟩
  .cases e) λenv bb e=>by
  unfold fBI at e;split at e
  .rename_i i j h1 h2;exact⟨_,_,h1,h2⟩
  .cases e
def rD(f:QE X m1 rs1 a fa)(h:QE X m2 rs2 b fb):QT X (.Compare a [.Lt] [b] pos) (fBI (λi j=>decide (i<j)) fa fb):=K6 Z4N f h (jJ _)
def T9(f:QE X m1 rs1 a fa)(h:QE X m2 rs2 b fb):QT X (.Compare a [.Gt] [b] pos) (fBI (λi j=>decide (j<i)) fa fb):=K6 Zag f h (jJ _)
def U0(f:QE X m1 rs1 a fa)(h:QE X m2 rs2 b fb):QT X (.Compare a [.GtE] [b] pos) (fBI (λi j=>decide (j<=i)) fa fb):=K6 Zah f h (jJ _)
def oH(neg:Bool)(fa:En->Aa D):En->Aa Bool:=λenv=>match fa env with
 |some .non=>some (!neg)
 |some _=>some neg
 |none=>none
def wZ{K:Frag}(h:Rep K m H d v fp)(hd:d ≠ .non):v ≠ .non:=by
 cases d with
 |non=>exact absurd rfl hd
 |bl _=>simp only[Rep]at h;rw[h.1];simp
 |int _=>simp only[Rep]at h;rw[h.1];simp
 |str _=>simp only[Rep]at h;rw[h.1];simp
 |tup _=>simp only[Rep]at h;obtain⟨a,vs,e,_⟩:=h;rw[e];simp
 |lst _=>simp only[Rep]at h;obtain⟨a,vs,b,e,_⟩:=h;rw[e];simp
 |obj _ _ _=>simp only[Rep]at h;obtain⟨a,dx,vs,b,e,_⟩:=h;rw[e];simp
 |dk _ _=>simp only[Rep]at h;obtain⟨a,vs,b,e,_⟩:=h;rw[e];simp
 |dt _ _=>simp only[Rep]at h;obtain⟨a,es,ep,vs,b,e,_⟩:=h;rw[e];simp
 |exc _=>simp only[Rep]at h;obtain⟨a,e,_⟩:=h;rw[e];simp
 |fn _ _ _=>simp only[Rep]at h;rw[h.1];simp
def K5{j pos'}(b:QE X m1 rs1 a fa):QT X (.Compare a [.Is] [.Constant .none j pos'] pos) (oH false fa) :=
 sW Z9e b (m2:=false) (rs2:=[]) nO (jJ _) (λenv x y K H v u f1 f2 Q bb e ea eb r1 r2 _ q=>by
  cases eb;refine⟨fF r2,?_⟩;unfold oH at e;rw[ea]at e;cases x with
  |non=>cases e;rw[fF r1];exact q
  |_=>cases e;rw[Ri (wZ r1 (by intro z;cases z))];exact q) λenv bb e=>by
  unfold oH at e;cases h:fa env with
  |none=>rw[h]at e;cases e
  |some x=>exact⟨x,.non,rfl,rfl⟩
def vU{j pos'}(b:QE X m1 rs1 a fa):QT X (.Compare a [.IsNot] [.Constant .none j pos'] pos) (oH true fa) :=
 sW Z7c b (m2:=false) (rs2:=[]) nO (jJ _) (λenv x y K H v u f1 f2 Q bb e ea eb r1 r2 _ q=>by
  cases eb;refine⟨fF r2,?_⟩;unfold oH at e;rw[ea]at e;cases x with
  |non=>cases e;rw[fF r1];exact q
  |_=>cases e;rw[Ri (wZ r1 (by intro z;cases z))];exact q) λenv bb e=>by
  unfold oH at e;cases h:fa env with
  |none=>rw[h]at e;cases e
  |some x=>exact⟨x,.non,rfl,rfl⟩
def iL(b:QT X a ga):QW X (.BoolOp .And [a] pos) ga:=.mk (Z6Z b) λσ H Q q=>q
def qC(b:QT X a ga):QW X (.BoolOp .Or [a] pos) ga:=.mk (Z93 b) λσ H Q q=>q
def jF(f:QT X a ga)(h:QW X (.BoolOp .And (b::rest) pos) gb):QW X (.BoolOp .And (a::b::rest) pos) (iJ ga gb) :=
 .mk (Z94 f h) λσ H Q ⟨env,F,bb,ok,e,q⟩=>by
  unfold iJ at e;split at e
  .rename_i h1;exact⟨env,F,true,ok,h1,λH' s=>by refine zN ?_;exact⟨env,F,bb,ok.same s,e,λH2 s2=>q H2 (s.trans s2)⟩⟩
  .rename_i h1;cases e;exact⟨env,F,false,ok,h1,λH' s=>by refine zO ?_;exact q H' s⟩
  .cases e
def xB(f:QT X a ga)(h:QW X (.BoolOp .Or (b::rest) pos) gb):QW X (.BoolOp .Or (a::b::rest) pos) (fOr ga gb) :=
 .mk (Zab f h) λσ H Q ⟨env,F,bb,ok,e,q⟩=>by
  unfold fOr at e;split at e
  .rename_i h1;exact⟨env,F,false,ok,h1,λH' s=>by refine zO ?_;exact⟨env,F,bb,ok.same s,e,λH2 s2=>q H2 (s.trans s2)⟩⟩
  .rename_i h1;cases e;exact⟨env,F,true,ok,h1,λH' s=>by refine zN ?_;exact q H' s⟩
  .cases e
def Z0p(b:QT X a ga):QT X (.UnaryOp .Not a pos) (kT ga):=.mk (L2.pt_not b) λσ H Q ⟨env,F,bb,ok,e,q⟩=>by
 unfold kT at e;cases h:ga env with
 |none=>rw[h]at e;cases e
 |some b1=>rw[h]at e;cases e;exact⟨env,F,b1,ok,h,λH' s=>q H' s⟩
def Z0s(h:QE X m rs a f):QE X m rs (.BoolOp op [a] pos) f:=.mk (Z99 h) λσ H Q q=>q
def Z91(f:QE X m1 rs1 a fa)(h:QE X m2 rs2 (.BoolOp .And (b::rest) pos) fb):QE X m rs (.BoolOp .And (a::b::rest) pos) (kR (iJ (fB fa) (fB fb))) :=
 .mk (L2.pe_and f h) λσ H Q ⟨env,F,d,ok,e,q⟩=>by
  unfold kR iJ fB at e;cases h1:fa env with
  |none=>rw[h1]at e;cases e
  |some x =>
   rw[h1]at e;cases x with
   |bl c =>
    cases c with
    |true =>
     simp only at e;cases h2:fb env with
     |none=>rw[h2]at e;cases e
     |some y =>
      rw[h2]at e;cases y with
      |bl c2 =>
       cases e;refine⟨env,F,_,ok,h1,λv H1 f1 s1 r1 _=>?_⟩;rw[fI r1];refine⟨true,rfl,?_⟩;refine zN ?_;refine⟨env,F,_,ok.same s1,h2,λu H2 f2 s2 r2 _=>?_⟩;rw[fI r2];exact q _ _ _ (s1.trans s2) nS .nil
      |_=>cases e
    |false =>
     cases e;refine⟨env,F,_,ok,h1,λv H1 f1 s1 r1 _=>?_⟩;rw[fI r1];refine⟨false,rfl,?_⟩;refine zO ?_;exact q _ _ _ s1 nS .nil
   |_=>cases e
def Z8g(f:QE X m1 rs1 a fa)(h:QE X m2 rs2 (.BoolOp .Or (b::rest) pos) fb):QE X m rs (.BoolOp .Or (a::b::rest) pos) (kR (fOr (fB fa) (fB fb))) :=
 .mk (L2.pe_or f h) λσ H Q ⟨env,F,d,ok,e,q⟩=>by
  unfold kR fOr fB at e;cases h1:fa env with
  |none=>rw[h1]at e;cases e
  |some x =>
   rw[h1]at e;cases x with
   |bl c =>
    cases c with
    |false =>
     simp only at e;cases h2:fb env with
     |none=>rw[h2]at e;cases e
     |some y =>
      rw[h2]at e;cases y with
      |bl c2 =>
       cases e;refine⟨env,F,_,ok,h1,λv H1 f1 s1 r1 _=>?_⟩;rw[fI r1];refine⟨false,rfl,?_⟩;refine zO ?_;refine⟨env,F,_,ok.same s1,h2,λu H2 f2 s2 r2 _=>?_⟩;rw[fI r2];exact q _ _ _ (s1.trans s2) nS .nil
      |_=>cases e
    |true =>
     cases e;refine⟨env,F,_,ok,h1,λv H1 f1 s1 r1 _=>?_⟩;rw[fI r1];refine⟨true,rfl,?_⟩;refine zN ?_;exact q _ _ _ s1 nS .nil
   |_=>cases e
def xG(hc:QT X c g)(f:QE X m rs a fa)(h:QE X m rs b fb):QE X m rs (.IfExp c a b pos) (fIf g fa fb) :=
 .mk (L2.pe_ifExp hc f h) λσ H Q ⟨env,F,d,ok,e,q⟩=>by
  unfold fIf at e;split at e
  .rename_i h1;exact⟨env,F,true,ok,h1,λH' s=>by refine zN ?_;exact⟨env,F,d,ok.same s,e,λv H2 fp s2 r c=>q v H2 fp (s.trans s2) r (c.back s)⟩⟩
  .rename_i h1;exact⟨env,F,false,ok,h1,λH' s=>by refine zO ?_;exact⟨env,F,d,ok.same s,e,λv H2 fp s2 r c=>q v H2 fp (s.trans s2) r (c.back s)⟩⟩
  .cases e
def aV:QA X m rs [] aF:=λpos pins s σ H Q I ⟨env,F,ds,ok,e,q⟩=>pa_nil pos pins s σ H Q I (by cases e;exact q [] H [] (Same.refl H) (by simp only[Reps];exact⟨trivial,trivial⟩) .nil)
def aC{ga:En->Aa (Ab D)}(l:QE X m rs e f)(j:QA X m rs es ga)(hs:sEa e es X.env:=by rfl):QA X m rs (e::es) (aA f ga) :=
 λpos pins s σ H Q I ⟨env,F,ds,ok,e,q⟩=>pa_cons l j hs pos pins s σ H Q I (by
  unfold aA at e;split at e
  .rename_i d h h1 h2;cases e;refine⟨env,F,d,ok,h1,λv H1 f1 s1 r1 c1=>⟨env,F,h,ok.same s1,h2,λvs H2 f2 s2 r2 c2=>q _ H2 (f1++f2) (s1.trans s2) ?_ ?_⟩⟩
   .simp only[Reps];exact⟨v,vs,f1,f2,rfl,rfl,r1.same s2,r2⟩
   .refine⟨λb hb=>(Qah.mp hb).elim (c1.1 b) ((c2.back s1).1 b),λa=>⟨Qar.mpr ⟨(c1.2 a).1,(c2.2 a).1,λx hx y hy z=>?_⟩,λb hb=>(Qah.mp hb).elim ((c1.2 a).2 b) (((c2.back s1).2 a).2 b)⟩⟩;obtain⟨o,i⟩:=Rep.dom _ _ _ r1 x hx;rw[z,(c2.2 a).2 y hy]at i;cases i
  .cases e)
end
def lC(h:n<=1000):n<=sizeLine:=Nat.le_of_lt (lW h)
def tL{K:Frag}(hq:H q=none)(h:Reps K m H ds vs fp):Rep K m (upd H q (.tup vs)) (.tup ds) (.ref q) fp:=by
 have a:Same H (upd H q (.tup vs)):=λb o e=>by rw[bB (cG e hq)];exact e
 simp only[Rep];exact⟨q,vs,rfl,SqT.of bJ,h.same a⟩
def mR{K:Frag}(hq:H q=none)(h:Reps K m H ds vs fp):Rep K m (upd H q (.lst vs)) (.lst ds) (.ref q) (q::fp):=by
 have a:Same H (upd H q (.lst vs)):=λb o e=>by rw[bB (cG e hq)];exact e
 simp only[Rep];exact⟨q,vs,fp,rfl,h.same a,.inl ⟨rfl,bJ⟩⟩
def cJ(hq:H q=none):Same H (upd H q o):=λb u e=>by rw[bB (cG e hq)];exact e
def oK{K:Frag}(s:Same H H')(hq:H' q=none)(r:Reps K m H' ds vs fp)(c:Cond F H m rs fp):Cond F H m rs (q::fp) :=
 ⟨fun b a => (Qad.mp a).elim (fun z => .inl (by rw [z]; exact s.free hq)) (c.1 b),
  λh=>⟨QaA.mpr ⟨λz=>(by obtain⟨o,f⟩:=Reps.dom _ _ _ r q z;rw[hq]at f;cases f),(c.2 h).1⟩,λb a=>(Qad.mp a).elim (λz=>by rw[z];exact s.free hq) ((c.2 h).2 b)⟩⟩
def fW(h:QA X m rs es fs):QE X m rs (.Tuple es x1 pos) (fT fs) :=
 .mk (L2.pe_tup h) λσ H Q ⟨env,F,d,ok,e,q⟩=>by
  unfold fT at e;split at e
  .rename_i ds h1;split at e
   .rename_i a;cases e;refine⟨env,F,ds,ok,h1,λvs H' fp s r c=>⟨lC (by rw[r.length];exact a),λp hp=>q _ _ fp (s.trans (cJ hp)) (tL hp r) c⟩⟩
   .cases e
  .cases e
def bU(h:QA X m rs es fs):QE X m rs (.List es pos) (cW fs) :=
 .mk (L2.pe_lst h) λσ H Q ⟨env,F,d,ok,e,q⟩=>by
  unfold cW at e;split at e
  .rename_i ds h1;split at e
   .rename_i a;cases e;refine⟨env,F,ds,ok,h1,λvs H' fp s r c=>⟨lC (by rw[r.length];exact a),λp hp=>q _ _ (p::fp) (s.trans (cJ hp)) (mR hp r) (oK s hp r c)⟩⟩
   .cases e
  .cases e
def fIx(fa fb:En->Aa D):En->Aa D:=λenv=>match fa env,fb env with
 |some (.lst ds),some (.int i)=>atI ds i
 |some (.tup ds),some (.int i)=>atI ds i
 |some (.str z),some (.int i)=>if z.length<=1000 then(atI z.cps.toList i).map λc=>.str ⟨#[c]⟩ else none
 |_,_=>none
def Z25{K:Frag}(r:Reps K m H ds vs fp)(h:atI ds i=some d):∃v f,atI vs i=some v/\Rep K m H d v f/\(∀b∈f,b∈fp)/\(fp.Nodup->f.Nodup):=by
 unfold atI at h ⊢;rw[r.length];cases a:ixN ds.length i with
 |none=>rw[a]at h;cases h
 |some j =>
  rw[a]at h;exact r.get h
def aQ(x:QE X m1 rs a fa)(j:QE X m2 rs2 b fb)(hs:wE b:=by exact λ_ _=>rfl):QE X false rs (.Subscript a b pos) (fIx fa fb) :=
 .mk (Z4J Z0L x j hs) λσ H Q ⟨env,F,d,ok,e,q⟩=>by
  unfold fIx at e;split at e
  .rename_i ds i h1 h2;refine two ok h1 h2 λv u H' f1 f2 s r1 r2 c1 c2=>?_;obtain⟨p,vs,A,rfl,h,l,n⟩:=cC r1;obtain⟨w,f,o,t,r,_⟩:=Z25 l e;rw[bP r2];exact .inl ⟨p,vs,i,w,rfl,rfl,h,o,q w H' f s (Rep.weak _ _ _ t) ⟨λb j=>c1.1 b (n b (r b j)),λz=>(by cases z)⟩⟩
  .rename_i ds i h1 h2;refine two ok h1 h2 λv u H' f1 f2 s r1 r2 c1 c2=>?_;simp only[Rep]at r1;obtain⟨p,vs,rfl,h,l⟩:=r1;obtain⟨w,f,o,t,r,_⟩:=Z25 l e;rw[bP r2];exact .inr (.inl ⟨p,vs,i,w,rfl,rfl,h,o,q w H' f s (Rep.weak _ _ _ t) ⟨λb j=>c1.1 b (r b j),λz=>(by cases z)⟩⟩)
  .rename_i z i h1 h2;split at e
   .rename_i y;refine two ok h1 h2 λv u H' f1 f2 s r1 r2 c1 c2=>?_;cases hc:atI z.cps.toList i with
    |none=>rw[hc]at e;cases e
    |some ch =>
     rw[hc]at e;cases e;rw[cP r1,bP r2];exact .inr (.inr ⟨z,i,ch,rfl,rfl,lC y,hc,q _ H' [] s kJ .nil⟩)
   .cases e
  .cases e
def QO(X:Cx)(e:Aa Ag)(f:En->Aa (Aa Int)):Prop:=PO X e (λσ H Q=>∃env F o,EnvOk X.K H σ env F/\f env=some o/\∀H',Same H H'->Q o H')
def fE:En->Aa (Aa Int):=λ_=>some none
def fP(f:En->Aa D):En->Aa (Aa Int):=λenv=>match f env with
 |some (.int i)=>some (some i)
 |_=>none
def dQ:QO X none fE:=λpins s σ H Q I ⟨env,F,o,ok,e,q⟩=>Z74 pins s σ H Q I (by cases e;exact q H (Same.refl H))
def cV(h:QE X m rs e f):QO X (some e) (fP f):=λpins s σ H Q I ⟨env,F,o,ok,e,q⟩=>Z73 h pins s σ H Q I (by
 unfold fP at e;split at e
 .rename_i i h1;cases e;refine⟨env,F,_,ok,h1,λv H' fp s r _=>?_⟩;rw[bP r];exact⟨i,rfl,q H' s⟩
 .cases e)
def cutD(xs:Ab D)(lo hi:Aa Int):Ab D:=(xs.drop (HT.sIx xs.length 0 lo)).take (HT.sIx xs.length xs.length hi-HT.sIx xs.length 0 lo)
theorem Reps.drop{K:Frag}:∀(n:Nat) {ds:Ab D}{vs:Ab V}{fp:Ab Af},Reps K m H ds vs fp->∃f,Reps K m H (ds.drop n) (vs.drop n) f/\(∀b∈f,b∈fp)
 |0,ds,vs,fp,h=>⟨fp,h,λ_ h=>h⟩
 |n+1,[],vs,fp,h=>by simp only[Reps]at h;obtain⟨rfl,rfl⟩:=h;exact⟨[],by simp only[List.drop_nil,Reps];exact⟨trivial,trivial⟩,λ_ h=>h⟩
 |n+1,d::ds,vs,fp,h=>by
  simp only[Reps]at h;obtain⟨v,r,f1,j,rfl,rfl,h1,h2⟩:=h;obtain⟨f,a,i⟩:=Reps.drop n h2;exact⟨f,a,λb hb=>Qae _ (i b hb)⟩
theorem Reps.take{K:Frag}:∀(n:Nat) {ds:Ab D}{vs:Ab V}{fp:Ab Af},Reps K m H ds vs fp->∃f,Reps K m H (ds.take n) (vs.take n) f/\(∀b∈f,b∈fp)
 |0,ds,vs,fp,h=>⟨[],by simp only[List.take_zero,Reps];exact⟨trivial,trivial⟩,λb hb=>(by cases hb)⟩
 |n+1,[],vs,fp,h=>by simp only[Reps]at h;obtain⟨rfl,rfl⟩:=h;exact⟨[],by simp only[List.take_nil,Reps];exact⟨trivial,trivial⟩,λ_ h=>h⟩
 |n+1,d::ds,vs,fp,h=>by
  simp only[Reps]at h;obtain⟨v,r,f1,j,rfl,rfl,h1,h2⟩:=h;obtain⟨f,a,i⟩:=Reps.take n h2;refine⟨f1++f,by simp only[Qbn,Reps];exact⟨v,_,f1,f,rfl,rfl,h1,a⟩,λb hb=>?_⟩;rcases Qah.mp hb with z|z
  .exact Qan _ z
  .exact Qae _ (i b z)
def Reps.cut{K:Frag}(h:Reps K m H ds vs fp)(lo hi:Aa Int):∃f,Reps K m H (cutD ds lo hi) (Y1 vs lo hi) f/\(∀b∈f,b∈fp):=by
 unfold cutD Y1;rw[h.length];obtain⟨f,i,j⟩:=Reps.drop (HT.sIx ds.length 0 lo) h;obtain⟨f',l,a⟩:=Reps.take (HT.sIx ds.length ds.length hi-HT.sIx ds.length 0 lo) i;exact⟨f',l,λb hb=>j b (a b hb)⟩
theorem uF:∀{ds:Ab D},(∀d∈ds,flat d=true)->flats ds=true
 |[],_=>rfl
 |d::ds,h=>by simp only[flats,Qam];exact⟨h d Qai,uF λx hx=>h x (Qaa _ hx)⟩
def fSl(fa:En->Aa D)(fl fh:En->Aa (Aa Int)):En->Aa D:=λenv=>match fa env,fl env,fh env with
 |some (.lst ds),some lo,some hi=>if flats ds=true then some (.lst (cutD ds lo hi)) else none
 |some (.tup ds),some lo,some hi=>if flats ds=true/\¬(HT.sIx ds.length 0 lo=0/\HT.sIx ds.length ds.length hi=ds.length) then some (.tup (cutD ds lo hi)) else none
 |_,_,_=>none
def cY{lo hi:Aa Ag}(y:QE X m1 rs1 a fa)(A:QO X lo fl)(u:QO X hi fh):QE X m rs (.Subscript a (.Slice lo hi none p2) pos) (fSl fa fl fh) :=
 .mk (L2.pe_slice (SlR.or Z6j Z3X) y A u) λσ H Q ⟨env,F,d,ok,e,q⟩=>by
  unfold fSl at e;split at e
  .rename_i ds l h h1 h2 h3;split at e
   .rename_i j;cases e;refine⟨env,F,_,ok,h1,λv H1 f1 s1 r1 c1=>⟨env,F,l,ok.same s1,h2,λH2 s2=>⟨env,F,h,ok.same (s1.trans s2),h3,λH3 s3=>.inl ?_⟩⟩⟩;obtain⟨p,vs,B,rfl,f,i,w⟩:=cC (r1.same (s2.trans s3));refine⟨p,vs,rfl,f,λp' hp=>?_⟩;obtain⟨x,r⟩:=Reps.flat _ _ _ j i;obtain⟨f',n,t⟩:=Reps.cut (r m) l h;obtain rfl:f'=[]:=List.eq_nil_iff_forall_not_mem.mpr λb hb=>(by cases t b hb);exact q _ _ [p'] (((s1.trans s2).trans s3).trans (cJ hp)) (mR hp n) (oK ((s1.trans s2).trans s3) hp n .nil)
   .cases e
  .rename_i ds l h h1 h2 h3;split at e
   .rename_i j;cases e;refine⟨env,F,_,ok,h1,λv H1 f1 s1 r1 c1=>⟨env,F,l,ok.same s1,h2,λH2 s2=>⟨env,F,h,ok.same (s1.trans s2),h3,λH3 s3=>.inr ?_⟩⟩⟩;have o:=r1.same (s2.trans s3);simp only[Rep]at o;obtain⟨p,vs,rfl,f,i⟩:=o;refine⟨p,vs,rfl,f,by rw[i.length];exact j.2,λp' hp=>?_⟩;obtain⟨x,r⟩:=Reps.flat _ _ _ j.1 i;obtain⟨f',n,t⟩:=Reps.cut (r m) l h;obtain rfl:f'=[]:=List.eq_nil_iff_forall_not_mem.mpr λb hb=>(by cases t b hb);exact q _ _ [] (((s1.trans s2).trans s3).trans (cJ hp)) (tL hp n) .nil
   .cases e
  .cases e
def rH{id:String}(hc:CallR X (.builtin id) r)(f:Gl X x)(l:X.mg x=none)(n:bootBuiltins x=some (.builtin id))(i:QA X m1 rs1 (e::es) fs)
  (h:∀ds d vs H fp Q,F' ds=some d->Reps X.K m1 H ds vs fp->(∀v H' f',Same H H'->Rep X.K m H' d v f'->(∀b∈f',H b=none)->f'.Nodup->Q v H')->r vs H Q)
  (j:x ≠ "__name__":=by decide) (a:nDb x:=by decide) (he:sEa e es X.env:=by rfl) (hpl:bTa pos es X.env:=by rfl) :
  QE X m rs (.Call (.Name x p) (e::es) [] pos) (λenv=>(fs env).bind F') :=
 .mk (L2.pe_callB hc f l n i j a he hpl) λσ H Q ⟨env,F,d,ok,e,q⟩=>by
  cases h1:fs env with
  |none=>simp only[h1]at e;cases e
  |some ds =>
   simp only[h1]at e;exact⟨env,F,ds,ok,h1,λvs H' fp s r c=>h ds d vs H' fp Q e r λv H2 f' s2 r2 h2 nd=>q v H2 f' (s.trans s2) r2 ⟨λb hb=>.inl (s.free (h2 b hb)),λ_=>⟨nd,λb hb=>s.free (h2 b hb)⟩⟩⟩
def jY(hc:CallR X (.type T) r)(f:Gl X x)(l:X.mg x=none)(n:bootBuiltins x=some (.type T))(i:QA X m1 rs1 (e::es) fs)
  (h:∀ds d vs H fp Q,F' ds=some d->Reps X.K m1 H ds vs fp->(∀v H' f',Same H H'->Rep X.K m H' d v f'->(∀b∈f',H b=none)->f'.Nodup->Q v H')->r vs H Q)
  (j:x ≠ "__name__":=by decide) (a:nDb x:=by decide) (he:sEa e es X.env:=by rfl) (hpl:bTa pos es X.env:=by rfl) :
  QE X m rs (.Call (.Name x p) (e::es) [] pos) (λenv=>(fs env).bind F') :=
 .mk (L2.pe_callTy hc f l n i j a he hpl) λσ H Q ⟨env,F,d,ok,e,q⟩=>by
  cases h1:fs env with
  |none=>simp only[h1]at e;cases e
  |some ds =>
   simp only[h1]at e;exact⟨env,F,ds,ok,h1,λvs H' fp s r c=>h ds d vs H' fp Q e r λv H2 f' s2 r2 h2 nd=>q v H2 f' (s.trans s2) r2 ⟨λb hb=>.inl (s.free (h2 b hb)),λ_=>⟨nd,λb hb=>s.free (h2 b hb)⟩⟩⟩
def iW{K:Frag}(h:Reps K m H [d] vs fp):∃v,vs=[v]/\Rep K m H d v fp:=by
 simp only[Reps]at h;obtain⟨v,r,f1,a,rfl,rfl,h1,rfl,rfl⟩:=h;exact⟨v,rfl,by simpa using h1⟩
def Z1s{K:Frag}(h:Reps K m H [d,d'] vs fp):∃v a f f',vs=[v,a]/\Rep K m H d v f/\Rep K m H d' a f'/\fp=f++f':=by
 simp only[Reps]at h;obtain⟨v,r,f1,l,rfl,rfl,h1,a,i,b,j,rfl,rfl,h2,rfl,rfl⟩:=h;exact⟨v,a,f1,b,rfl,h1,h2,by simp⟩
def bG:Ab D->Aa D
 |[.lst ds]=>some (.int ds.length)
 |[.tup ds]=>some (.int ds.length)
 |[.str z]=>if z.length<=1000 then some (.int z.length) else none
 |_=>none
def cM{p:Pos}(l:Gl X "len")(t:X.mg "len" = none)(n:QE X m1 rs1 a fa)(he:starEach [a] X.env=(false,eval a X.env)::starEach [] X.env:=by rfl)(hpl:(backTo pos (starEach [] X.env)).any (·.1)=false:=by rfl) :
  QE X m rs (.Call (.Name "len" p) [a] [] pos) (λenv=>(aA fa aF env).bind bG) :=
 rH (call_len_seq.or O8) l t PySem.boot_len (aC n aV he) (λds d vs H fp Q e r q=>by
  unfold bG at e;split at e
  .cases e;obtain⟨v,rfl,f⟩:=iW r;obtain⟨p,ws,u,rfl,h,i,j⟩:=cC f;exact .inl ⟨p,ws,rfl,.inl h,by rw[i.length];exact q _ _ [] (Same.refl H) eR (λb hb=>(by cases hb)) Qaz⟩
  .cases e;obtain⟨v,rfl,f⟩:=iW r;simp only[Rep]at f;obtain⟨p,ws,rfl,h,i⟩:=f;exact .inl ⟨p,ws,rfl,.inr h,by rw[i.length];exact q _ _ [] (Same.refl H) eR (λb hb=>(by cases hb)) Qaz⟩
  .split at e
   .rename_i o;cases e;obtain⟨v,rfl,f⟩:=iW r;rw[cP f];exact .inr ⟨_,rfl,lC o,q _ _ [] (Same.refl H) eR (λb hb=>(by cases hb)) Qaz⟩
   .cases e
  .cases e) (he:=he) (hpl:=hpl)
def mH:Ab D->Aa D
 |[.lst ds]=>if flats ds=true then some (.lst ds) else none
 |[.tup ds]=>if flats ds=true then some (.lst ds) else none
 |_=>none
def Z3t:bootBuiltins "list" = some (.type "list"):=by decide +kernel
def yV:bootBuiltins "tuple" = some (.type "tuple"):=by decide +kernel
def Y9:bootBuiltins "int" = some (.type "int"):=by decide +kernel
def Z5I:bootBuiltins "min" = some (.builtin "min"):=by decide +kernel
def Z5J:bootBuiltins "max" = some (.builtin "max"):=by decide +kernel
def L6{p:Pos}(w:Gl X "list")(y:X.mg "list" = none)(x:QE X m1 rs1 a fa)(he:starEach [a] X.env=(false,eval a X.env)::starEach [] X.env:=by rfl)(hpl:(backTo pos (starEach [] X.env)).any (·.1)=false:=by rfl) :
  QE X m rs (.Call (.Name "list" p) [a] [] pos) (λenv=>(aA fa aF env).bind mH) :=
 jY O7 w y Z3t (aC x aV he) (λds d vs H fp Q e r q=>by
  have B:∀{xs:Ab D}{ws:Ab V}{f:Ab Af}{l:Af},flats xs=true->Reps X.K m1 H xs ws f->H l=none->Q (.ref l) (upd H l (.lst ws))->True:=λ_ _ _ _=>trivial;unfold mH at e;split at e
  .split at e
   .rename_i o;cases e;obtain⟨v,rfl,i⟩:=iW r;obtain⟨p,ws,A,rfl,h,j,t⟩:=cC i;refine⟨p,ws,rfl,.inl h,λl hl=>?_⟩;obtain⟨u,n⟩:=Reps.flat _ _ _ o j;exact q _ _ [l] (cJ hl) (mR hl (n m)) (λb hb=>by simp at hb;rw[hb];exact hl) (by simp)
   .cases e
  .split at e
   .rename_i o;cases e;obtain⟨v,rfl,i⟩:=iW r;simp only[Rep]at i;obtain⟨p,ws,rfl,h,j⟩:=i;refine⟨p,ws,rfl,.inr h,λl hl=>?_⟩;obtain⟨u,n⟩:=Reps.flat _ _ _ o j;exact q _ _ [l] (cJ hl) (mR hl (n m)) (λb hb=>by simp at hb;rw[hb];exact hl) (by simp)
   .cases e
  .cases e) (he:=he) (hpl:=hpl)
def jN:Ab D->Aa D
 |[.lst ds]=>if flats ds=true then some (.tup ds) else none
 |[.tup ds]=>if flats ds=true then some (.tup ds) else none
 |_=>none
def xF{p:Pos}(w:Gl X "tuple")(y:X.mg "tuple" = none)(x:QE X m1 rs1 a fa)(he:starEach [a] X.env=(false,eval a X.env)::starEach [] X.env:=by rfl)(hpl:(backTo pos (starEach [] X.env)).any (·.1)=false:=by rfl) :
  QE X m rs (.Call (.Name "tuple" p) [a] [] pos) (λenv=>(aA fa aF env).bind jN) :=
 jY pV w y yV (aC x aV he) (λds d vs H fp Q e r q=>by
  unfold jN at e;split at e
  .split at e
   .rename_i j;cases e;obtain⟨v,rfl,h⟩:=iW r;obtain⟨p,ws,A,rfl,f,n,t⟩:=cC h;refine⟨p,ws,rfl,.inl ⟨f,λl hl=>?_⟩⟩;obtain⟨u,i⟩:=Reps.flat _ _ _ j n;exact q _ _ [] (cJ hl) (tL hl (i m)) (λb hb=>(by cases hb)) Qaz
   .cases e
  .split at e
   .rename_i j;cases e;obtain⟨v,rfl,h⟩:=iW r;have o:=h;simp only[Rep]at h;obtain⟨p,ws,rfl,f,n⟩:=h;obtain⟨u,i⟩:=Rep.flat _ _ _ (by simpa only [PD.flat]using j) o;exact⟨p,ws,rfl,.inr ⟨f,q _ _ [] (Same.refl H) (i m) (λb hb=>(by cases hb)) Qaz⟩⟩
   .cases e
  .cases e) (he:=he) (hpl:=hpl)
def Z81:Ab D->Aa D
 |[.int i,.int j]=>some (.int (if j<i then j else i))
 |_=>none
def Z3A:Ab D->Aa D
 |[.int i,.int j]=>some (.int (if j > i then j else i))
 |_=>none
def Z8Z{p:Pos}(h:X.calm=true)(l:Gl X "min")(t:X.mg "min" = none)(n:QA X m1 rs1 [a,b] fs)(he:starEach [a,b] X.env=(false,eval a X.env)::starEach [b] X.env:=by rfl)(hpl:(backTo pos (starEach [b] X.env)).any (·.1)=false:=by rfl) :
  QE X m rs (.Call (.Name "min" p) [a,b] [] pos) (λenv=>(fs env).bind Z81) :=
 rH (Z3f h) l t Z5I n (λds d vs H fp Q e r q=>by
  unfold Z81 at e;split at e
  .rename_i i j;cases e;obtain⟨v,w,f,f',rfl,u,o,rfl⟩:=Z1s r;rw[bP u,bP o];exact⟨i,j,rfl,q _ _ [] (Same.refl H) eR (λb hb=>(by cases hb)) Qaz⟩
  .cases e) (he:=he) (hpl:=hpl)
def Z4w{p:Pos}(h:X.calm=true)(l:Gl X "max")(t:X.mg "max" = none)(n:QA X m1 rs1 [a,b] fs)(he:starEach [a,b] X.env=(false,eval a X.env)::starEach [b] X.env:=by rfl)(hpl:(backTo pos (starEach [b] X.env)).any (·.1)=false:=by rfl) :
  QE X m rs (.Call (.Name "max" p) [a,b] [] pos) (λenv=>(fs env).bind Z3A) :=
 rH (Z3g h) l t Z5J n (λds d vs H fp Q e r q=>by
  unfold Z3A at e;split at e
  .rename_i i j;cases e;obtain⟨v,w,f,f',rfl,u,o,rfl⟩:=Z1s r;rw[bP u,bP o];exact⟨i,j,rfl,q _ _ [] (Same.refl H) eR (λb hb=>(by cases hb)) Qaz⟩
  .cases e) (he:=he) (hpl:=hpl)
def P8:Ab D->Aa D
 |[.int i]=>some (.int i)
 |[.bl k]=>some (.int (if k then 1 else 0))
 |_=>none
def Z1B{p:Pos}(h:Gl X "int")(j:X.mg "int" = none)(i:QE X m1 rs1 a fa)(he:starEach [a] X.env=(false,eval a X.env)::starEach [] X.env:=by rfl)(hpl:(backTo pos (starEach [] X.env)).any (·.1)=false:=by rfl) :
  QE X m rs (.Call (.Name "int" p) [a] [] pos) (λenv=>(aA fa aF env).bind P8) :=
 jY Z3i h j Y9 (aC i aV he) (λds d vs H fp Q e r q=>by
  unfold P8 at e;split at e
  .cases e;obtain⟨v,rfl,f⟩:=iW r;rw[bP f];exact .inl ⟨_,rfl,q _ _ [] (Same.refl H) eR (λb hb=>(by cases hb)) Qaz⟩
  .cases e;obtain⟨v,rfl,f⟩:=iW r;rw[fI f];exact .inr ⟨_,rfl,q _ _ [] (Same.refl H) eR (λb hb=>(by cases hb)) Qaz⟩
  .cases e) (he:=he) (hpl:=hpl)
section
variable {X:Cx}{m m1:Bool}{rs rs1:Ab Nat}{e a b c:Ag}{es:Ab Ag}{f fa fc:En->Aa D}{fs:En->Aa (Ab D)}{pos p:Pos}
def spD(K:Frag)(n:Nat)(f:Ab D->Aa D):Sp:=λvs H Q _=>∃ds d fp,ds.length=n/\Reps K false H ds vs fp/\f ds=some d/\∀v H' fp',Same H H'->Rep K true H' d v fp'->(∀b∈fp',H b=none)->fp'.Nodup->Q v H'
def Z6h{K:Frag}{n:Nat}{f:Ab D->Aa D}{vs:Ab V}{H:Hp}{Q:VK}{E:XK}(h:spD K n f vs H Q E):vs.length=n:=by
 obtain⟨ds,d,fp,h1,h2,_⟩:=h;rw[h2.length,h1]
def Z6Y(G:gT X.prog X.w X.K X.mg X.base CX0 k fA fd ps (spD X.K n F'))(j:Room k X.A)(i:Gl X x)(t:X.mg x=some (.ref fA))(u:keepIn X.K (.ref fA)=true)
  (a:Binds X.K fd ps ds) (hd:Vals dvs ds) (f:∀H,Reps X.K false H dds dvs []) (l:QA X m1 rs1 (e::es) fs) (o:∀env xs,fs env=some xs->xs.length+dds.length=n)
  (h:nDb x:=by decide) (he:sEa e es X.env:=by rfl) (hpl:bTa pos es X.env:=by rfl) :
  QE X true [] (.Call (.Name x p) (e::es) [] pos) (λenv=>(fs env).bind λxs=>F' (xs++dds)) :=
 .mk (L2.pe_call G j i t u a hd U5 l h he hpl) λσ H Q ⟨env,F,d,ok,e,q⟩=>by
  cases h1:fs env with
  |none=>simp only[h1]at e;cases e
  |some xs =>
   simp only[h1]at e;refine⟨env,F,xs,ok,h1,λvs H' fp s r c=>⟨xs++dds,d,fp++[],by rw[Qav];exact o env xs h1,(Reps.weak _ _ _ r).append (f H'),e,λv H2 fp' s2 r2 h2 nd=>q v H2 fp' (s.trans s2) r2 ⟨λb a=>.inl (s.free (h2 b a)),λ_=>⟨nd,λb a=>s.free (h2 b a)⟩⟩⟩⟩
theorem wF{K:Frag}{H:Hp}{nm:Str}:∀{ns:Ab Str}{ds:Ab D}{vs:Ab V}{fp:Ab Af}{d:D},Reps K m H ds vs fp->(ns.zip ds).lookup nm=some d->∃v f,(ns.zip vs).lookup nm=some v/\Rep K m H d v f/\∀b∈f,b∈fp
 |[],ds,vs,fp,d,r,e=>by cases e
 |n::ns,[],vs,fp,d,r,e=>by cases e
 |n::ns,d'::ds,vs,fp,d,r,e=>by
  simp only[Reps]at r;obtain⟨v,j,f1,l,rfl,rfl,h1,h2⟩:=r;simp only[List.zip_cons_cons,QaF]at e ⊢;cases hq:nm==n with
  |true =>
   rw[hq]at e;cases e;exact⟨v,f1,rfl,h1,λb hb=>Qan _ hb⟩
  |false =>
   rw[hq]at e;obtain⟨w,f,h,a,i⟩:=wF h2 e;exact⟨w,f,h,a,λb hb=>Qae _ (i b hb)⟩
def fL(C:Af)(nm:Str)(fa:En->Aa D):En->Aa D:=λenv=>match fa env with
 |some (.obj C' ns ds)=>if C'=C then(ns.zip ds).lookup nm else none
 |_=>none
def gL(hc:Cls X.K C)(i:NoAttr X.K C nm)(t:QE X m1 rs a fa)(h:attributeBase a nm X.env (eval a X.env)=eval a X.env:=by rfl):QE X false rs (.Attribute a nm pos) (fL C nm fa) :=
 .mk (Z9c t h) λσ H Q ⟨env,F,d,ok,e,q⟩=>by
  unfold fL at e;split at e
  .rename_i j ns ds h1;split at e
   .rename_i x;subst x;refine⟨env,F,_,ok,h1,λv H' fp s r c=>?_⟩;simp only[Rep]at r;obtain⟨u,dx,vs,y,rfl,rfl,h2,_,h3,l⟩:=r;obtain⟨w,f,o,p,n⟩:=wF l e;exact⟨u,j,dx,_,w,rfl,h2,hc,i,o,q w H' f s (Rep.weak _ _ _ p) ⟨λb h=>c.1 b (Qaa _ (Qaa _ (n b h))),λz=>(by cases z)⟩⟩
   .cases e
  .cases e
def F5(K:Frag)(J:It)(H0:Hp)(ds:Ab D)(fp:Ab Af):Prop:=∀H,Kp fp H0 H->∀i,
 (∀d,ds[i]?=some d->J.go i H/\∀x H',J.yld i H x H'->Same H H'/\∃f,Rep K false H' d x f/\∀b∈f,b∈fp)/\(ds.length<=i->J.stop i H)
def tDI(K:Frag)(rs:Ab Nat)(f:En->Aa (Ab D)):TI:=λσ H R=>∃env F ds,EnvOk K H σ env F/\f env=some ds/\∀J H' fp,Same H H'->F5 K J H' ds fp->(∀b∈fp,∃o,H' b=some o)->Cond F H false rs fp->R J H'
def QI(X:Cx)(tg:Ag)(rs:Ab Nat)(iter:Ag)(f:En->Aa (Ab D)):Prop:=PI X tg iter (tDI X.K rs f)
def QI.mk{tg iter:Ag}{a:TI}{f:En->Aa (Ab D)}(h:PI X tg iter a)(hi:∀σ H R,tDI X.K rs f σ H R->a σ H R):QI X tg rs iter f:=λpins s σ H R I q=>h pins s σ H R I (hi σ H R q)
def PI.or(h1:PI X tg iter w1)(h2:PI X tg iter w2):PI X tg iter (λσ H R=>w1 σ H R\/w2 σ H R):=λpins s σ H R I q=>q.elim (h1 pins s σ H R I) (h2 pins s σ H R I)
def Z0Q{K:Frag}{H0:Hp}{ds:Ab D}{a:Af}{fp:Ab Af}(r:Rep K false H0 (.lst ds) (.ref a) fp):F5 K (Itl K a) H0 ds fp:=λH k i=>by
 have n:=Rep.keep _ _ _ k r;obtain⟨p,vs,q,e,h,l,j⟩:=cC n;cases e;refine⟨λd hd=>?_,λo=>⟨vs,h,by rw[l.length];exact o⟩⟩;obtain⟨v,f,h1,h2,h3,_⟩:=l.get hd;refine⟨⟨vs,v,h,h1⟩,λx H' y=>?_⟩;obtain⟨rfl,y⟩:=y;have:=y vs h;rw[h1]at this;cases this;exact⟨Same.refl _,f,h2,λb hb=>j b (h3 b hb)⟩
def Z35{K:Frag}{H0:Hp}{ds:Ab D}{a:Af}{fp:Ab Af}(r:Rep K false H0 (.tup ds) (.ref a) fp):F5 K (Itt K a) H0 ds fp:=λH k i=>by
 have j:=Rep.keep _ _ _ k r;simp only[Rep]at j;obtain⟨p,vs,e,b,h⟩:=j;cases e;refine⟨λd hd=>?_,λl=>⟨vs,b,by rw[h.length];exact l⟩⟩;obtain⟨v,f,h1,h2,h3,_⟩:=h.get hd;refine⟨⟨vs,v,b,h1⟩,λx H' y=>?_⟩;obtain⟨rfl,y⟩:=y;have:=y vs b;rw[h1]at this;cases this;exact⟨Same.refl _,f,h2,h3⟩
def uW{K:Frag}{H0:Hp}(lo:Int)(n:Nat):F5 K (Itr lo n) H0 ((List.range n).map λ(k:Nat)=>.int (lo+(k:Int))) []:=λH k i=>by
 refine⟨λd hd=>?_,λh=>(show n<=i by simpa using h)⟩;rw[QaD]at hd;cases a:(List.range n)[i]? with
 |none=>rw[a]at hd;cases hd
 |some j =>
  rw[a]at hd;cases hd;obtain⟨f,e⟩:=Qac.mp a;rw[List.getElem_range]at e;subst e;refine⟨(show i<n by simpa using f),λx H' y=>?_⟩;obtain⟨rfl,rfl⟩:=y;exact⟨Same.refl _,[],eR,λb hb=>hb⟩
def fZ(fa:En->Aa D):En->Aa (Ab D):=λenv=>match fa env with
 |some (.lst ds)=>some ds
 |some (.tup ds)=>some ds
 |_=>none
def eM{tg:Ag}(i:QE X m1 rs a fa):QI X tg rs a (fZ fa) :=
 .mk (PI.or (Z75 i) (Z95 i)) λσ H R ⟨env,F,ds,ok,e,q⟩=>by
  unfold fZ at e;split at e
  .rename_i h h1;cases e;refine .inl ⟨env,F,_,ok,h1,λv H' fp s r c=>?_⟩;have f:=Rep.weak _ _ _ r;obtain⟨p,vs,o,rfl,b,l,n⟩:=cC r;exact⟨p,rfl,⟨vs,b⟩,q _ H' fp s (Z0Q f) (Rep.dom _ _ _ r) ⟨c.1,λz=>(by cases z)⟩⟩
  .rename_i h h1;cases e;refine .inr ⟨env,F,_,ok,h1,λv H' fp s r c=>?_⟩;have f:=Rep.weak _ _ _ r;have j:=r;simp only[Rep]at j;obtain⟨p,vs,rfl,b,l⟩:=j;exact⟨p,rfl,⟨vs,b⟩,q _ H' fp s (Z35 f) (Rep.dom _ _ _ r) ⟨c.1,λz=>(by cases z)⟩⟩
  .cases e
def fU:Ab D->Aa (Ab D)
 |[.int j]=>if -(2^62)<=j/\j<2^62 then some ((List.range j.toNat).map λ(k:Nat)=>.int (0+(k:Int))) else none
 |_=>none
def eN{tg:Ag}{p:Pos}(h:Gl X "range")(l:X.mg "range" = none)(i:QA X m1 rs1 [a] fs)(hs:starEach [a] X.env=[(false,eval a X.env)]:=by rfl):QI X tg rs (.Call (.Name "range" p) [a] [] pos) (λenv=>(fs env).bind fU) :=
 .mk (Z2K h l i hs) λσ H R ⟨env,F,ds,ok,e,q⟩=>by
  cases h1:fs env with
  |none=>simp only[h1]at e;cases e
  |some xs =>
   simp only[h1,Qbc]at e;unfold fU at e;split at e
   .rename_i j;split at e
    .rename_i f;cases e;refine⟨env,F,_,ok,h1,λvs H' fp s r c=>?_⟩;obtain⟨v,rfl,n⟩:=iW r;rw[bP n];exact⟨j,rfl,f.1,f.2,q _ H' [] s (uW 0 _) (λb hb=>(by cases hb)) .nil⟩
    .cases e
   .cases e
def Z8:Ab D->Aa (Ab D)
 |[.int i,.int j]=>if -(2^62)<=i/\i<2^62 /\ -(2^62)<=j/\j<2^62 then some ((List.range (j-i).toNat).map λ(k:Nat)=>.int (i+(k:Int))) else none
 |_=>none
def Z2G{tg:Ag}{p:Pos}(o:Gl X "range")(u:X.mg "range" = none)(t:QA X m1 rs1 [a,b] fs)(hs:starEach [a,b] X.env=[(false,eval a X.env),(false,eval b X.env)]:=by rfl)(h:starEach [b] X.env=[(false,eval b X.env)]:=by rfl):QI X tg rs (.Call (.Name "range" p) [a,b] [] pos) (λenv=>(fs env).bind Z8) :=
 .mk (Z2J o u t hs h) λσ H R ⟨env,F,ds,ok,e,q⟩=>by
  cases h1:fs env with
  |none=>simp only[h1]at e;cases e
  |some xs =>
   simp only[h1,Qbc]at e;unfold Z8 at e;split at e
   .rename_i i j;split at e
    .rename_i l;cases e;refine⟨env,F,_,ok,h1,λvs H' fp s r c=>?_⟩;obtain⟨v,x,f,f',rfl,w,n,rfl⟩:=Z1s r;rw[bP w,bP n];exact⟨i,j,rfl,l,q _ H' [] s (uW i _) (λb hb=>(by cases hb)) .nil⟩
    .cases e
   .cases e
def eO(fc:En->Aa Bool)(fe:En->Aa D)(env:En):Ab D->Aa (Ab D)
 |[]=>some []
 |d::r=>match fc (some (false,d)::env) with
  |some true=>match fe (some (false,d)::env),eO fc fe env r with
   |some y,some ys=>some (y::ys)
   |_,_=>none
  |some false=>eO fc fe env r
  |none=>none
def vP(fr:Ab Nat)(env:En):En:=fr.map λj=>(env[j]?).join
def cT(fr:Ab Nat)(src:En->Aa (Ab D))(fc:En->Aa Bool)(fe:En->Aa D):En->Aa D:=λenv=>match src env with
 |some ds=>if ds.length<=1000 then(eO fc fe (vP fr env) ds).map .lst else none
 |none=>none
def fTT:En->Aa Bool:=λ_=>some true
theorem qN{fc:En->Aa Bool}{fe:En->Aa D}{env:En}:∀{ds:Ab D}{ys:Ab D}{i:Nat}{d:D}{zs:Ab D},ds[i]?=some d->eO fc fe env ds=some ys->eO fc fe env (ds.take i)=some zs ->
  (fc (some (false,d)::env)=some true/\∃y,fe (some (false,d)::env)=some y/\eO fc fe env (ds.take (i+1))=some (zs++[y]))\/(fc (some (false,d)::env)=some false/\eO fc fe env (ds.take (i+1))=some zs)
 |[],ys,i,d,zs,h,_,_=>by simp at h
 |d'::ds,ys,0,d,zs,h,h1,h2=>by
  simp at h;subst h;simp only[List.take_zero,eO]at h2;cases h2;unfold eO at h1;simp only[Qbh,Qbn,List.take_zero,eO];split at h1
  .rename_i hc;split at h1
   .rename_i y n f o;exact .inl ⟨hc,y,f,by simp[hc,f]⟩
   .cases h1
  .rename_i hc;exact .inr ⟨hc,by simp[hc]⟩
  .cases h1
 |d'::ds,ys,i+1,d,zs,h,h1,h2=>by
  have h':ds[i]?=some d:=by simpa using h
  unfold eO at h1;simp only[Qbn]at h2 ⊢;unfold eO at h2;split at h1
  .rename_i hc;split at h1
   .rename_i y n f o;simp only[hc,f]at h2;cases h3:eO fc fe env (ds.take i) with
    |none=>rw[h3]at h2;cases h2
    |some z' =>
     rw[h3]at h2;cases h2;rcases qN h' o h3 with⟨a,j,b,l⟩|⟨a,b⟩
     .exact .inl ⟨a,j,b,by unfold eO;simp[hc,f,l]⟩
     .exact .inr ⟨a,by unfold eO;simp[hc,f,b]⟩
   .cases h1
  .rename_i hc;simp only[hc]at h2;rcases qN h' h1 h2 with⟨a,j,b,l⟩|⟨a,b⟩
   .exact .inl ⟨a,j,b,by unfold eO;simp[hc,l]⟩
   .exact .inr ⟨a,by unfold eO;simp[hc,b]⟩
  .cases h1
theorem uJ{fc:En->Aa Bool}{fe:En->Aa D}{env:En}:∀{ds ys:Ab D},eO fc fe env ds=some ys->ys.length<=ds.length
 |[],ys,h=>by simp only[eO]at h;cases h;exact Qap _
 |d::ds,ys,h=>by
  unfold eO at h;split at h
  .split at h
   .rename_i y b f a;cases h;simp only[Qaf];exact Nat.succ_le_succ (uJ a)
   .cases h
  .exact Nat.le_succ_of_le (uJ h)
  .cases h
end
def Z5v{K:Frag}{H:Hp}{σ:L2.St}{env:En}{F:Nat->Ab Af}{fr:Ab Nat}{d:D}{v:V}{f:Ab Af}(ok:EnvOk K H σ env F)(r:Rep K false H d v f) :
  ∃F',EnvOk K H ((nE 1 fr σ).set 0 (some v)) (some (false,d)::vP fr env) F':=by
 refine⟨λi=>match i with|0=>f|i+1=>F (fr.getD i 0),λi o d' e=>?_⟩
 cases i with
 |zero =>
  simp at e;obtain⟨_,rfl⟩:=e;exact⟨v,by simp[nE],r⟩
 |succ i =>
  simp only[List.getElem?_cons_succ,vP,QaD]at e;cases a:fr[i]? with
  |none=>rw[a]at e;cases e
  |some j =>
   rw[a]at e;simp only[QaH,Qbk]at e;cases hq:env[j]? with
   |none=>rw[hq]at e;cases e
   |some s =>
    rw[hq]at e;simp only[Qbm]at e;subst e;obtain⟨w,h1,h2⟩:=ok j o d' hq;refine⟨w,?_,?_⟩
    .simp[nE,a,h1]
    .have:fr.getD i 0=j:=by simp[List.getD,a]
     simp only[this];exact h2
def QTs(X:Cx)(ifs:Ab Ag)(f:En->Aa Bool):Prop:=PTs X ifs (tDT X.K f)
def dP:QTs X [] fTT:=λpins s σ H Q I ⟨env,F,b,ok,e,q⟩=>Z71 pins s σ H Q I (by cases e;exact q H (Same.refl H))
def Z6F(h:QT X c g):QTs X [c] g:=λpins s σ H Q I q=>Z70 h pins s σ H Q I q
def D9{K:Frag}{σ:L2.St}{H:Hp}{Q:VK}(h:tD K true [] (cT fr src fc fe) σ H Q) :
  Z3R (tDI K rs src) 1 fr (D5 0) (tDT K fc) (tD K true [] fe) σ H Q:=by
 obtain⟨env,F,d,ok,e,q⟩:=h;unfold cT at e;cases h1:src env with
 |none=>rw[h1]at e;cases e
 |some ds =>
  rw[h1]at e;simp only at e;split at e
  .rename_i O;cases h2:eO fc fe (vP fr env) ds with
   |none=>rw[h2]at e;cases e
   |some ys =>
    rw[h2]at e;cases e;refine⟨env,F,ds,ok,h1,λJ H1 fp s1 gv dm cd=>?_⟩;intro l p;refine⟨λi k vs H2=>i<=ds.length/\k=ds.length-i/\H2 l=some (.lst vs)/\Same H1 H2/\∃zs f,eO fc fe (vP fr env) (ds.take i)=some zs/\Reps K true H2 zs vs f/\f.Nodup/\(∀b∈f,H1 b=none)/\l∉f,
     ⟨ds.length,QaY _,rfl,bJ,cJ p,[],[],by simp[eO],by simp only[Reps];exact⟨trivial,trivial⟩,Qaz,λb n=>(by cases n),by simp⟩,?_⟩
    rintro i k vs H2 ⟨hi,hk,ha,sm,zs,f,hz,hr,nd,hfr,hna⟩;refine⟨ha,?_⟩;have M:=gv H2 (Kp.same sm fp) i;by_cases t:i<ds.length
    .right;have hd:ds[i]?=some ds[i]:=Qaj t;obtain⟨P,U⟩:=M.1 _ hd;refine⟨P,λx H3 y3=>?_⟩;obtain⟨j,f3,W,_⟩:=U x H3 y3;refine⟨⟨by simp[nE],by simp[nE]⟩,?_⟩;have N:EnvOk K H3 σ env F:=ok.same ((s1.trans sm).trans j);obtain⟨B,r⟩:=Z5v (fr:=fr) N W;rcases qN hd h2 hz with⟨C,I,E,R⟩|⟨C,E⟩
     .refine⟨_,B,true,r,C,λH4 s4=>zN ⟨_,B,I,r.same s4,E,λv H5 fp5 s5 r5 c5=>?_⟩⟩;have y:Same H2 H5:=(j.trans s4).trans s5;have Z:Same H4 H5:=s5;have u:H5 l=some (.lst vs):=y _ _ ha;have w:l∉fp5:=λz=>by
       have:=(c5.2 rfl).2 l z;rw[(j.trans s4) _ _ ha]at this;cases this
      have T:vs.length<1000:=by
       have:=uJ hz;have h4:=hr.length;rw[QaR]at this;omega
      refine⟨vs,u,lW (Nat.le_of_lt T),ds.length-(i+1),by omega,t,rfl,bJ,?_,zs++[I],f++fp5,R,?_,?_,?_,?_⟩
      .intro b o n;have G:b≠l:=cG n p;rw[bB G];exact y _ _ (sm _ _ n)
      .have S:=Reps.keep _ _ _ (Kp.upd (o':=.lst (vs++[v])) u (by intro xs z;cases z) (by intro a b z;cases z) hna) (hr.same y);have Y:=Rep.keep _ _ _ (Kp.upd (o':=.lst (vs++[v])) u (by intro xs z;cases z) (by intro a b z;cases z) w) r5;exact S.snoc Y
      .refine Qar.mpr ⟨nd,(c5.2 rfl).1,λa ha' b n z=>?_⟩;obtain⟨o,X⟩:=Reps.dom _ _ _ hr a ha';have:=(c5.2 rfl).2 b n;rw[<- z,(j.trans s4) _ _ X]at this;cases this
      .intro b n;rcases Qah.mp n with z|z
       .exact hfr b z
       .exact((sm.trans j).trans s4).free ((c5.2 rfl).2 b z)
      .intro z;rcases Qah.mp z with z|z
       .exact hna z
       .exact w z
     .refine⟨_,B,false,r,C,λH4 s4=>zO ⟨ds.length-(i+1),vs,by omega,t,rfl,(j.trans s4) _ _ ha,(sm.trans j).trans s4,zs,f,E,hr.same (j.trans s4),nd,hfr,hna⟩⟩
    .left;have L:i=ds.length:=by omega
     refine⟨M.2 (by omega),?_⟩;have A:eO fc fe (vP fr env) ds=some zs:=by rw[L,QaW]at hz;exact hz
     rw[h2]at A;cases A;refine q _ H2 (l::f) (s1.trans sm) ?_ ⟨λb n=>?_,λ_=>⟨QaA.mpr ⟨hna,nd⟩,λb n=>?_⟩⟩
     .simp only[Rep];exact⟨l,vs,f,rfl,hr,.inl ⟨rfl,ha⟩⟩
     .rcases Qad.mp n with z|z
      .exact .inl (by rw[z];exact s1.free p)
      .exact .inl (s1.free (hfr b z))
     .rcases Qad.mp n with z|z
      .rw[z];exact s1.free p
      .exact s1.free (hfr b z)
  .cases e
def fM(hc:X.calm=true)(b:iS X.env.scope X.N scope fr=true)(hi:QI X (.Name x px) rs iter src)
  (a:(gA [x] fr X.N).Nodup) (f:scope.names.lookup x=some .local)
  (j:∀cl C s0 H0 ex pins,QTs (gO X (gA [x] fr X.N) scope cl C s0 H0 ex pins) ifs fc)
  (he:∀cl C s0 H0 ex pins,QE (gO X (gA [x] fr X.N) scope cl C s0 H0 ex pins) true [] elt fe)
  (hs:∀x,foldedSetIterable iter X.env x=pure x:=by intro _;rfl) :
  QE X true [] (.ListComp elt [⟨.Name x px,iter,ifs,0⟩] scope pos) (cT fr src fc fe) :=
 .mk (Z78 (tgs:=[x]) (tt:=tDT X.K fc) (te:=tD X.K true [] fe) hc b hi (λcl C s0 H0 ex pins=>gH (i:=0) a rfl (.inl (lookup_relabel_local f)) (.inr (lookup_relabel_local f))) j he hs) λσ H Q h=>D9 h
structure EnvS(K:Frag)(P H:Hp)(σ:L2.St)(env:En)(F:Nat->List Addr):Prop where
 ok:EnvOk K H σ env F
 own:∀i d,env[i]?=some (some (true,d))->(F i).Nodup/\(∀b∈F i,P b=none)/\(∀v,σ[i]?=some (some v)->Rep K true H d v (F i))/\∀j s,j≠i->env[j]?=some (some s)->∀b∈F i,b∉F j
structure SInv(K:Frag)(P H:Hp)(σ:L2.St)(env:En):Prop where
 same:Same P H
 len:σ.length=env.length
 ex:∃F,EnvS K P H σ env F
theorem EnvS.dom{K:Frag}(h:EnvS K P H σ env F){i:Nat}{s:Bool×D}(e:env[i]?=some (some s)):∀b∈F i,∃o,H b=some o:=by
 obtain⟨o,d⟩:=s;obtain⟨v,_,r⟩:=h.ok i o d e;exact Rep.dom _ _ _ r
def EnvS.grow{K:Frag}(h:EnvS K P H σ env F)(s:Same H H'):EnvS K P H' σ env F :=
 ⟨h.ok.same s,λi d e=>let ⟨a,b,c,q⟩:=h.own i d e;⟨a,b,λv hv=>(c v hv).same s,q⟩⟩
theorem SInv.grow{K:Frag}(h:SInv K P H σ env)(s:Same H H'):SInv K P H' σ env :=
 ⟨h.same.trans s,h.len,let ⟨F,hF⟩:=h.ex;⟨F,hF.grow s⟩⟩
inductive Res where
 |next (env:En)|ret (d:D)|brk (env:En)|cont (env:En)|bad
def Post(K:Frag)(P:Hp)(E:uL):Res->Prop
 | .next env=>∀σ H,SInv K P H σ env->E.nx σ H
 | .ret d=>∀v H fp,Same P H->Rep K true H d v fp->(∀b∈fp,P b=none)->fp.Nodup->E.rt v H
 | .brk env=>∀σ H,SInv K P H σ env->E.bk σ H
 | .cont env=>∀σ H,SInv K P H σ env->E.ct σ H
 | .bad=>False
def tDS(K:Frag)(g:En->Res):TS:=λE σ H=>∃P env,SInv K P H σ env/\Post K P E (g env)
def QS(X:Cx)(st:Stmt)(g:En->Res):Prop:=PS X st (tDS X.K g)
def QSs(X:Cx)(st:Ab Stmt)(g:En->Res):Prop:=PSs X st (tDS X.K g)
def QS.mk{st:Stmt}(h:PS X st t)(hi:∀E σ H,tDS X.K g E σ H->t E σ H):QS X st g:=λpins s σ H E I q=>h pins s σ H E I (hi E σ H q)
def QSs.mk{st:Ab Stmt}(h:PSs X st t)(hi:∀E σ H,tDS X.K g E σ H->t E σ H):QSs X st g:=λpins s σ H E I q=>h pins s σ H E I (hi E σ H q)
def Z0X(F:Nat->Ab Af)(i:Nat)(f:Ab Af):Nat->Ab Af:=λj=>if j=i then f else F j
def cH:Z0X F i f i=f:=if_pos rfl
def bH(h:j≠i):Z0X F i f j=F j:=if_neg h
def cS{l:Ab α}(h:i<l.length):(l.set i x)[j]?=if j=i then some x else l[j]?:=by
 by_cases e:j=i
 .subst e;rw[if_pos rfl,Qaw h]
 .rw[if_neg e,Qak (Ne.symm e)]
def oP{K:Frag}{P H H':Hp}(i:Nat)(u:Same P H)(y:σ.length=env.length)(h:EnvS K P H σ env F)(s:Same H H')(r:Rep K true H' d v fp)(A:fp.Nodup)(fr:∀b∈fp,H b=none) :
  SInv K P H' (σ.set i (some v)) (env.set i (some (true,d))):=by
 refine⟨u.trans s,by simp[y],Z0X F i fp,?_,?_⟩
 .intro j o d' e;by_cases hi:i<env.length
  .rw[cS hi]at e;by_cases a:j=i
   .subst a;rw[if_pos rfl]at e;cases e;exact⟨v,Qaw (by omega),by rw[cH];exact Rep.weak _ _ _ r⟩
   .rw[if_neg a]at e;obtain⟨w,h1,h2⟩:=h.ok j o d' e;exact⟨w,by rw[Qak (Ne.symm a)];exact h1,by rw[bH a];exact h2.same s⟩
  .rw[QaM (by omega)]at e;have a:j≠i:=λz=>by rw[z,Qas (by omega)]at e;cases e
   obtain⟨w,h1,h2⟩:=h.ok j o d' e;exact⟨w,by rw[Qak (Ne.symm a)];exact h1,by rw[bH a];exact h2.same s⟩
 .intro j d' e;by_cases hi:i<env.length
  .rw[cS hi]at e;by_cases a:j=i
   .subst a;rw[if_pos rfl]at e;cases e;refine⟨by rw[cH];exact A,λb hb=>?_,λw hw=>?_,λk s' hk ek b hb=>?_⟩
    .rw[cH]at hb;cases x:P b with
     |none=>rfl
     |some o=>have:=u _ _ x;rw[fr b hb]at this;cases this
    .rw[Qaw (by omega)]at hw;cases hw;rw[cH];exact r
    .rw[cH]at hb;rw[bH hk];rw[cS hi,if_neg hk]at ek;intro z;obtain⟨o,l⟩:=h.dom ek b z;rw[fr b hb]at l;cases l
   .rw[if_neg a]at e;obtain⟨q,t,p,n⟩:=h.own j d' e;refine⟨by rw[bH a];exact q,λb hb=>t b (by rw[bH a]at hb;exact hb),λw hw=>?_,λk s' hk ek b hb=>?_⟩
    .rw[Qak (Ne.symm a)]at hw;rw[bH a];exact(p w hw).same s
    .rw[bH a]at hb;rw[cS hi]at ek;by_cases f:k=i
     .subst f;rw[cH];intro z;obtain⟨o,l⟩:=h.dom e b hb;rw[fr b z]at l;cases l
     .rw[if_neg f]at ek;rw[bH f];exact n k s' hk ek b hb
  .rw[QaM (by omega)]at e;have a:j≠i:=λz=>by rw[z,Qas (by omega)]at e;cases e
   obtain⟨q,t,p,n⟩:=h.own j d' e;refine⟨by rw[bH a];exact q,λb hb=>t b (by rw[bH a]at hb;exact hb),λw hw=>?_,λk s' hk ek b hb=>?_⟩
   .rw[Qak (Ne.symm a)]at hw;rw[bH a];exact(p w hw).same s
   .rw[bH a]at hb;rw[QaM (by omega)]at ek;have f:k≠i:=λz=>by rw[z,Qas (by omega)]at ek;cases ek
    rw[bH f];exact n k s' hk ek b hb
def Q4{K:Frag}{P H H':Hp}(i:Nat)(p:Same P H)(x:σ.length=env.length)(h:EnvS K P H σ env F)(s:Same H H')(r:Rep K false H' d v fp)
  (fr:∀j d',env[j]?=some (some (true,d'))->∀b∈F j,b∉fp):SInv K P H' (σ.set i (some v)) (env.set i (some (false,d))):=by
 refine⟨p.trans s,by simp[x],Z0X F i fp,?_,?_⟩
 .intro j o d' e;by_cases hi:i<env.length
  .rw[cS hi]at e;by_cases f:j=i
   .subst f;rw[if_pos rfl]at e;cases e;exact⟨v,Qaw (by omega),by rw[cH];exact r⟩
   .rw[if_neg f]at e;obtain⟨w,h1,h2⟩:=h.ok j o d' e;exact⟨w,by rw[Qak (Ne.symm f)];exact h1,by rw[bH f];exact h2.same s⟩
  .rw[QaM (by omega)]at e;have f:j≠i:=λz=>by rw[z,Qas (by omega)]at e;cases e
   obtain⟨w,h1,h2⟩:=h.ok j o d' e;exact⟨w,by rw[Qak (Ne.symm f)];exact h1,by rw[bH f];exact h2.same s⟩
 .intro j d' e;have a:j≠i:=by
   rintro rfl;by_cases hi:j<env.length
   .rw[cS hi,if_pos rfl]at e;cases e
   .rw[QaM (by omega),Qas (by omega)]at e;cases e
  rw[Qak (Ne.symm a)]at e;obtain⟨t,u,q,n⟩:=h.own j d' e;refine⟨by rw[bH a];exact t,λb hb=>u b (by rw[bH a]at hb;exact hb),λw hw=>?_,λk s' hk ek b hb=>?_⟩
  .rw[Qak (Ne.symm a)]at hw;rw[bH a];exact(q w hw).same s
  .rw[bH a]at hb;by_cases l:k=i
   .subst l;rw[cH];exact fr j d' e b hb
   .rw[Qak (Ne.symm l)]at ek;rw[bH l];exact n k s' hk ek b hb
def fz1(r:Nat)(env:En):En:=match env[r]? with
 |some (some (_,d))=>env.set r (some (false,d))
 |_=>env
def fz:Ab Nat->En->En
 |[],env=>env
 |r::rs,env=>fz rs (fz1 r env)
def Z7N:(fz1 r env).length=env.length:=by
 unfold fz1;split<;>simp
def Z1T:(fz1 r env)[j]?=if j=r then(env[j]?).map (Option.map λp=>(false,p.2)) else env[j]?:=by
 unfold fz1;split
 .rename_i o d h;have b:r<env.length:=(Qac.mp h).1;rw[cS b];by_cases a:j=r
  .subst a;simp[h]
  .simp[a]
 .rename_i h;by_cases a:j=r
  .subst a;rw[if_pos rfl];cases h1:env[j]? with
   |none=>rfl
   |some o =>
    cases o with
    |none=>rfl
    |some p=>exact absurd h1 (h p.1 p.2)
  .rw[if_neg a]
theorem EnvS.fz1{K:Frag}(r:Nat)(h:EnvS K P H σ env F):EnvS K P H σ (PD.fz1 r env) F:=by
 have back:∀{j:Nat}{o:Bool}{d:D},(PD.fz1 r env)[j]?=some (some (o,d))->∃o',env[j]?=some (some (o',d))/\(j=r->o=false)/\(j≠r->o'=o):=by
  intro j o d e;rw[Z1T]at e;by_cases a:j=r
  .rw[if_pos a]at e;cases h1:env[j]? with
   |none=>rw[h1]at e;cases e
   |some s =>
    cases s with
    |none=>rw[h1]at e;cases e
    |some p =>
     rw[h1]at e;cases e;exact⟨p.1,rfl,λ_=>rfl,λz=>absurd a z⟩
  .rw[if_neg a]at e;exact⟨o,e,λz=>absurd z a,λ_=>rfl⟩
 refine⟨λj o d e=>?_,λj d e=>?_⟩
 .obtain⟨o',h1,_⟩:=back e;exact h.ok j o' d h1
 .obtain⟨o',h1,h2,h3⟩:=back e;have a:j≠r:=λz=>by cases h2 z
  have:=h3 a;subst this;obtain⟨n,q,i,f⟩:=h.own j d h1;refine⟨n,q,i,λk s hk ek b hb=>?_⟩;obtain⟨u,t⟩:=s;obtain⟨v,l,_⟩:=back ek;exact f k _ hk l b hb
theorem EnvS.fz{K:Frag}:∀(rs:Ab Nat) {env:En},EnvS K P H σ env F->EnvS K P H σ (PD.fz rs env) F
 |[],_,h=>h
 |r::rs,_,h=>EnvS.fz rs (h.fz1 r)
theorem yH:∀(rs:Ab Nat) {env:En},(fz rs env).length=env.length
 |[],_=>rfl
 |r::rs,env=>by show(fz rs (fz1 r env)).length=_;rw[yH rs,Z7N]
theorem Z5o:∀(rs:Ab Nat) {env:En}{j:Nat}{d:D},(fz rs env)[j]?=some (some (true,d))->j∉rs/\env[j]?=some (some (true,d))
 |[],env,j,d,e=>⟨by simp,e⟩
 |r::rs,env,j,d,e=>by
  obtain⟨h1,h2⟩:=Z5o rs (env:=fz1 r env) e;rw[Z1T]at h2;by_cases a:j=r
  .rw[if_pos a]at h2;cases h3:env[j]? with
   |none=>rw[h3]at h2;cases h2
   |some s =>
    cases s with
    |none=>rw[h3]at h2;cases h2
    |some p=>rw[h3]at h2;cases h2
  .rw[if_neg a]at h2;exact⟨by simp[a,h1],h2⟩
def nrm(env:En)(F:Nat->Ab Af):Nat->Ab Af:=λi=>match env[i]? with|some (some _)=>F i|_=>[]
def nR(h:env[i]?=some (some s)):nrm env F i=F i:=by unfold nrm;rw[h]
def M6(h:b∈nrm env F i):∃s,env[i]?=some (some s):=by
 unfold nrm at h;split at h
 .rename_i s e;exact⟨s,e⟩
 .cases h
theorem EnvS.nrm{K:Frag}(h:EnvS K P H σ env F):EnvS K P H σ env (PD.nrm env F):=by
 refine⟨λi o d e=>by rw[nR e];exact h.ok i o d e,λi d e=>?_⟩;obtain⟨l,b,a,f⟩:=h.own i d e;rw[nR e];exact⟨l,b,a,λj s hj ej=>by rw[nR ej];exact f j s hj ej⟩
section
variable {X:Cx}{m m1 m2:Bool}{rs rs1 rs2:Ab Nat}{e a b c:Ag}{f fc:En->Aa D}{c':En->Aa Bool}{pos p pos':Pos}{st:Stmt}{sts:Ab Stmt}{g h:En->Res}{i:Nat}{x:Str}
def aL(g h:En->Res):En->Res:=λenv=>match g env with
 | .next env'=>h env'
 |r=>r
def aX:En->Res:=.next
def bF:QSs X [] aX:=.mk vX λE σ H ⟨P,env,I,q⟩=>q σ H I
def aH(h1:QS X st g)(h2:QSs X sts h):QSs X (st::sts) (aL g h):=.mk (kG h1 h2) λE σ H ⟨P,env,I,q⟩=>by
 refine⟨P,env,I,?_⟩;unfold aL at q;cases a:g env with
 |next env'=>rw[a]at q;exact λσ' H' I'=>⟨P,env',I',q⟩
 |ret d=>rw[a]at q;exact q
 |brk _=>rw[a]at q;exact q
 |cont _=>rw[a]at q;exact q
 |bad=>rw[a]at q;exact q
def aG(h1:QS X st g):QSs X [st] g:=.mk (oV h1) λE σ H q=>q
def Z2B:En->Res:=λ_=>.bad
def nN:QS X st Z2B:=.mk Z4A λE σ H ⟨P,env,I,q⟩=>q.elim
def rIf(c:En->Aa Bool)(g h:En->Res):En->Res:=λenv=>match c env with
 |some true=>g env
 |some false=>h env
 |none=>.bad
def cI(hc:QT X c c')(a:QSs X sa g)(b:QSs X sb h):QS X (.If c sa sb pos) (rIf c' g h):=.mk (Z1G hc a b) λE σ H ⟨P,env,I,q⟩=>by
 obtain⟨F,hF⟩:=I.ex;unfold rIf at q;split at q
 .rename_i h1;exact⟨env,F,true,hF.ok,h1,λH' s=>zN ⟨P,env,I.grow s,q⟩⟩
 .rename_i h1;exact⟨env,F,false,hF.ok,h1,λH' s=>zO ⟨P,env,I.grow s,q⟩⟩
 .exact q.elim
def bA(f:En->Aa D):En->Res:=λenv=>match f env with
 |some d=>.ret d
 |none=>.bad
def aS(he:QE X true [] e f):QS X (.Return (some e) pos) (bA f):=.mk (jH he) λE σ H ⟨P,env,I,q⟩=>by
 obtain⟨F,hF⟩:=I.ex;unfold bA at q;split at q
 .rename_i d h1;refine⟨env,F,d,hF.ok,h1,λv H' fp s r c=>q v H' fp (I.same.trans s) r (λb hb=>?_) (c.2 rfl).1⟩;cases a:P b with
  |none=>rfl
  |some o=>have:=I.same _ _ a;rw[(c.2 rfl).2 b hb]at this;cases this
 .exact q.elim
def jS(h:X.N[i]?=some x:=by rfl)(l:Vis X.env.scope x:=by first|exact Or.inl rfl|exact Or.inr (Or.inl rfl)|exact Or.inr (Or.inr rfl))(hd:nDb x:=by decide)(a:(x==("__classdict__" : Str))=false:=by decide) :
  QS X (.Return (some (.Name x p)) pos) (λenv=>match env[i]? with|some (some (true,d))=>.ret d|_=>.bad):=.mk (jH (kH h l hd a)) λE σ H ⟨P,env,I,q⟩=>by
 obtain⟨F,hF⟩:=I.ex;simp only at q;split at q
 .rename_i d h1;obtain⟨v,h2,_⟩:=hF.ok i true d h1;obtain⟨j,b,f,_⟩:=hF.own i d h1;exact⟨v,h2,q v H _ I.same (f v h2) b j⟩
 .exact q.elim
def aW(i:Nat)(f:En->Aa D):En->Res:=λenv=>match f env with
 |some d=>.next (env.set i (some (true,d)))
 |none=>.bad
def B0{K:Frag}(h:tDS K (aW i f) E σ H):Z2e (tD K true [] f) (D5 i) E σ H:=by
 obtain⟨P,env,I,q⟩:=h;obtain⟨F,hF⟩:=I.ex;unfold aW at q;split at q
 .rename_i d h1;exact⟨env,F,d,hF.ok,h1,λv H' fp s r c=>q _ H' (oP i I.same I.len hF s r (c.2 rfl).1 (c.2 rfl).2)⟩
 .exact q.elim
def Z8U(a:X.N.Nodup)(hi:X.N[i]?=some x)(h:Loc X.env.scope x)(he:QE X true [] e f)(hs:swapsWith e (some (.Name x pos')) pos.line X.env=pure false:=by rfl)(b:X.fn x=true\/X.env.scope.names.lookup x=some .local:=by first|exact .inl rfl|exact .inr rfl|assumption) :
  QS X (.Assign [.Name x pos'] e pos) (aW i f):=.mk (qD a hi h he hs b) λE σ H q=>B0 q
def kF{fc:En->Aa Bool}
  (hc:X.calm=true) (o:X.N.Nodup) (l:X.N[i]?=some x) (f:Loc X.env.scope x) (b:iS X.env.scope X.N scope fr=true) (hi:QI X (.Name y px) rs iter src)
  (a:(gA [y] fr X.N).Nodup) (h:scope.names.lookup y=some .local)
  (n:∀cl C s0 H0 ex pins,QTs (gO X (gA [y] fr X.N) scope cl C s0 H0 ex pins) ifs fc)
  (he:∀cl C s0 H0 ex pins,QE (gO X (gA [y] fr X.N) scope cl C s0 H0 ex pins) true [] elt fe)
  (j:swapsWith (.ListComp elt [⟨.Name y px,iter,ifs,0⟩] scope pos) (some (.Name x pos')) spos.line X.env=pure true:=by rfl)
  (p:X.fn x=true\/X.env.scope.names.lookup x=some .local:=by first|exact .inl rfl|exact .inr rfl|assumption)
  (hs:∀x,foldedSetIterable iter X.env x=pure x:=by intro _;rfl) :
  QS X (.Assign [.Name x pos'] (.ListComp elt [⟨.Name y px,iter,ifs,0⟩] scope pos) spos) (aW i (cT fr src fc fe)) :=
 .mk (Z0t (tgs:=[y]) (tt:=tDT X.K fc) (te:=tD X.K true [] fe) hc o l f b hi (λcl C s0 H0 ex pins=>gH (i:=0) a rfl (.inl (lookup_relabel_local h)) (.inr (lookup_relabel_local h))) n he j p hs)
  λE σ H q=>D9 (B0 q)
def qU{K:Frag}(hF:EnvS K P H σ env F)(c:Cond (nrm env F) H m rs fp):∀j d',(fz rs env)[j]?=some (some (true,d'))->∀b∈nrm env F j,b∉fp:=by
 intro j d' e b f z;obtain⟨h1,h2⟩:=Z5o rs e;rcases c.1 b z with y|⟨r,hr,y⟩
 .obtain⟨o,a⟩:=hF.nrm.dom h2 b f;rw[y]at a;cases a
 .obtain⟨s,hs⟩:=M6 y;exact(hF.nrm.own j d' h2).2.2.2 r s (λz=>h1 (z ▸ hr)) hs b f y
def iA(i:Nat)(f:En->Aa D):En->Res:=λenv=>match f env,env[i]? with
 |some d,some (some (true,.lst ds))=>if ds.length<=1000 then .next (env.set i (some (true,.lst (ds++[d])))) else .bad
 |_,_=>.bad
def zY{K:Frag}{a:Af}(J:Same P H)(Q:σ.length=env.length)(h:EnvS K P H σ env F)(t:env[i]?=some (some (true,.lst ds)))
  (E:σ[i]?=some (some (.ref a))) (hF:F i=a::fp') (O:H a=some (.lst vs)) (r:Reps K true H ds' vs' fp2) (I:(a::fp2).Nodup) (n:∀b∈fp2,b∈fp'\/(P b=none/\∀j s,env[j]?=some (some s)->b∉F j)) :
  SInv K P (upd H a (.lst vs')) σ (env.set i (some (true,.lst ds'))):=by
 have hi:i<env.length:=(Qac.mp t).1;obtain⟨S,B,T,q⟩:=h.own i _ t;have l:a∈F i:=by rw[hF];exact Qai
 have C:∀{fp:Ab Af},a∉fp->Kp fp H (upd H a (.lst vs')):=λn=>Kp.upd O (by intro xs z;cases z) (by intro x u z;cases z) n;have R:a∉fp2:=(QaA.mp I).1;have v:∀st,Rep K st (upd H a (.lst vs')) (.lst ds') (.ref a) (a::fp2):=λst=>by
  have G:=Reps.keep _ _ _ (C R) r;cases st with
  |true=>simp only[Rep];exact⟨a,vs',fp2,rfl,G,.inl ⟨rfl,bJ⟩⟩
  |false=>simp only[Rep];exact⟨a,vs',fp2,rfl,Reps.weak _ _ _ G,.inl ⟨rfl,bJ⟩⟩
 refine⟨λb o e=>?_,by simp[Q],Z0X F i (a::fp2),λj o d e=>?_,λj d e=>?_⟩
 .have:b≠a:=λz=>by have:=B a l;rw[z,this]at e;cases e
  rw[bB this];exact J _ _ e
 .rw[cS hi]at e;by_cases f:j=i
  .subst f;rw[if_pos rfl]at e;cases e;exact⟨_,E,by rw[cH];exact v false⟩
  .rw[if_neg f]at e;obtain⟨w,h1,h2⟩:=h.ok j o d e;exact⟨w,h1,by rw[bH f];exact Rep.keep _ _ _ (C (q j _ f e a l)) h2⟩
 .rw[cS hi]at e;by_cases f:j=i
  .subst f;rw[if_pos rfl]at e;cases e;refine⟨by rw[cH];exact I,λb hb=>?_,λw hw=>?_,λk s hk ek b hb=>?_⟩
   .rw[cH]at hb;rcases Qad.mp hb with z|z
    .rw[z];exact B a l
    .rcases n b z with y|y
     .exact B b (by rw[hF];exact Qaa _ y)
     .exact y.1
   .rw[E]at hw;cases hw;rw[cH];exact v true
   .rw[cH]at hb;rw[bH hk];rw[cS hi,if_neg hk]at ek;rcases Qad.mp hb with z|z
    .rw[z];exact q k s hk ek a l
    .rcases n b z with y|y
     .exact q k s hk ek b (by rw[hF];exact Qaa _ y)
     .exact y.2 k s ek
  .rw[if_neg f]at e;obtain⟨M,N,L,A⟩:=h.own j d e;refine⟨by rw[bH f];exact M,λb hb=>N b (by rw[bH f]at hb;exact hb),λw hw=>by rw[bH f];exact Rep.keep _ _ _ (C (q j _ f e a l)) (L w hw),λk s hk ek b hb=>?_⟩;rw[bH f]at hb;rw[cS hi]at ek;by_cases p:k=i
   .subst p;rw[cH];intro z;rcases Qad.mp z with z|z
    .exact A k _ hk t b hb (by rw[z];exact l)
    .rcases n b z with y|y
     .exact A k _ hk t b hb (by rw[hF];exact Qaa _ y)
     .exact y.2 j _ e hb
   .rw[if_neg p]at ek;rw[bH p];exact A k s hk ek b hb
def Z2D(S:X.N[i]?=some x)(R:Vis X.env.scope x)(he:QE X true [] e f)(hd:nDb x:=by decide)(M:(x==("__classdict__" : Str))=false:=by decide)
  (O:starEach [e] X.env=(false,eval e X.env)::starEach [] X.env:=by rfl)
  (hpe:PE X (.Call (.Attribute (.Name x p) "append" apos) [e] [] cpos) (tBM X.K "list" K4 (zE i) (Z3Q (tD X.K true [] f) Z6c)))
  (hs:swapsWith (.Call (.Attribute (.Name x p) "append" apos) [e] [] cpos) none pos.line X.env=pure false:=by rfl) :
  QS X (.Expr (.Call (.Attribute (.Name x p) "append" apos) [e] [] cpos) pos) (iA i f):=.mk (rJ hpe hs) λE σ H ⟨P,env,I,q⟩=>by
 obtain⟨F,hF⟩:=I.ex;unfold iA at q;split at q
 .rename_i d ds h1 h2;split at q
  .rename_i G;obtain⟨v,h,_⟩:=hF.ok i true _ h2;obtain⟨B,T,J,Q⟩:=hF.own i _ h2;obtain⟨a,vs,A,rfl,t,y,u⟩:=iX (J v h);refine⟨.ref a,h,.inl ⟨rfl,vs,SqL.of y⟩,env,F,d,hF.ok,h1,λv' H' fp s r c=>?_⟩;have n:=s _ _ y;refine⟨a,vs,v',rfl,rfl,n,lW (by rw[u.length];exact G),q _ _ ?_⟩;refine zY (fp2:=A++fp) (I.same.trans s) I.len (hF.grow s) h2 h t n ((u.same s).snoc r) ?_ ?_
   .rw[t]at B;obtain⟨L,C⟩:=QaA.mp B;refine QaA.mpr ⟨λz=>?_,Qar.mpr ⟨C,(c.2 rfl).1,λb w b' hb' z=>?_⟩⟩
    .rcases Qah.mp z with z|z
     .exact L z
     .have:=(c.2 rfl).2 a z;rw[y]at this;cases this
    .obtain⟨o,l⟩:=Reps.dom _ _ _ u b w;have:=(c.2 rfl).2 b' hb';rw[<- z,l]at this;cases this
   .intro b w;rcases Qah.mp w with z|z
    .exact .inl z
    .refine .inr ⟨I.same.free ((c.2 rfl).2 b z),λj s' ej hz=>?_⟩;obtain⟨o,l⟩:=hF.dom ej b hz;rw[(c.2 rfl).2 b z]at l;cases l
  .exact q.elim
 .exact q.elim
def T5(i:Nat)(fk f:En->Aa D):En->Res:=λenv=>match f env,fk env,env[i]? with
 |some d,some (.int k),some (some (true,.lst ds))=>match ixN ds.length k with
  |some j=>if flats ds=true/\flat d=true then .next (env.set i (some (true,.lst (ds.set j d)))) else .bad
  |none=>.bad
 |_,_,_=>.bad
theorem Reps.set{K:Frag}:∀{ds:Ab D}{vs:Ab V}{d:D}{v:V}(j:Nat),Reps K true H ds vs []->Rep K true H d v []->Reps K true H (ds.set j d) (vs.set j v) []
 |[],vs,d,v,j,r,_=>by simp only[Reps]at r;obtain⟨rfl,_⟩:=r;simp only[List.set_nil,Reps];exact⟨trivial,trivial⟩
 |d'::ds,vs,d,v,0,r,r'=>by
  simp only[Reps]at r;obtain⟨w,us,f1,a,rfl,e,h1,h2⟩:=r;obtain⟨rfl,rfl⟩:=List.append_eq_nil_iff.mp e.symm;simp only[List.set_cons_zero,Reps];exact⟨v,us,[],[],rfl,rfl,r',h2⟩
 |d'::ds,vs,d,v,j+1,r,r'=>by
  simp only[Reps]at r;obtain⟨w,us,f1,a,rfl,e,h1,h2⟩:=r;obtain⟨rfl,rfl⟩:=List.append_eq_nil_iff.mp e.symm;simp only[List.set_cons_succ,Reps];exact⟨w,us.set j v,[],[],rfl,rfl,h1,Reps.set j h2 r'⟩
def Z8V(S:X.N[i]?=some x)(M:Vis X.env.scope x)(he:QE X m1 rs1 e f)(T:QE X m2 rs2 k fk)(hd:nDb x:=by decide)(G:(x==("__classdict__" : Str))=false:=by decide)
  (hps:PS X (.Assign [.Subscript (.Name x p) k spos] e pos) (Z2e (tD X.K m1 rs1 f) (Zau (zE i) (tD X.K m2 rs2 fk) Z8d))) :
  QS X (.Assign [.Subscript (.Name x p) k spos] e pos) (T5 i fk f):=.mk hps λE σ H ⟨P,env,I,q⟩=>by
 obtain⟨F,hF⟩:=I.ex;unfold T5 at q;split at q
 .rename_i d kk ds h1 h2 h3;split at q
  .rename_i j t;split at q
   .rename_i l;obtain⟨v,h,_⟩:=hF.ok i true _ h3;obtain⟨Q,R,C,L⟩:=hF.own i _ h3;obtain⟨a,vs,J,rfl,r,B,o⟩:=iX (C v h);refine⟨env,F,d,hF.ok,h1,λv' H1 fp s1 r1 c1=>⟨.ref a,h,env,F,_,hF.ok.same s1,h2,λw H2 f2 s2 r2 c2=>?_⟩⟩;rw[bP r2];have n:=(s1.trans s2) _ _ B;refine⟨a,vs,kk,j,rfl,rfl,n,by rw[o.length];exact t,q _ _ ?_⟩;obtain⟨A,u⟩:=Reps.flat _ _ _ l.1 o;obtain⟨O,y⟩:=Rep.flat _ _ _ l.2 (r1.same s2);subst A;refine zY (fp2:=[]) (I.same.trans (s1.trans s2)) I.len (hF.grow (s1.trans s2)) h3 h r n (Reps.set j ((u true).same (s1.trans s2)) (y true)) (by simp) (λb hb=>(by cases hb))
   .exact q.elim
  .exact q.elim
 .exact q.elim
end
mutual
theorem Rep.kind{K:Frag}{st:Bool}{H:Hp}:∀(d:D) (v:V) (fp:Ab Af),Rep K st H d v fp->∀b∈fp,(∀xs,H b≠some (.tup xs))/\∀o u,H b≠some (.frz o u)
 | .non,v,fp,h,b,hb=>by simp only[Rep]at h;rw[h.2]at hb;cases hb
 | .bl _,v,fp,h,b,hb=>by simp only[Rep]at h;rw[h.2]at hb;cases hb
 | .int _,v,fp,h,b,hb=>by simp only[Rep]at h;rw[h.2]at hb;cases hb
 | .str _,v,fp,h,b,hb=>by simp only[Rep]at h;rw[h.2]at hb;cases hb
 | .tup ds,v,fp,h,b,hb=>by
  simp only[Rep]at h;obtain⟨a,vs,e,hs,hr⟩:=h;exact Reps.kind ds vs fp hr b hb
 | .lst ds,v,fp,h,b,hb=>by
  simp only[Rep]at h;obtain⟨a,vs,fp',e,hr,hs⟩:=h;rcases hs with⟨rfl,hs⟩|⟨_,rfl,hs⟩
  .rcases Qad.mp hb with z|z
   .exact⟨λxs q=>(by rw[z,hs]at q;cases q),λo u q=>(by rw[z,hs]at q;cases q)⟩
   .exact Reps.kind ds vs fp' hr b z
  .exact Reps.kind ds vs fp hr b hb
 | .obj C ns ds,v,fp,h,b,hb=>by
  simp only[Rep]at h;obtain⟨a,dx,vs,fp',e,rfl,hs,hd,hl,hr⟩:=h;rcases Qad.mp hb with z|z
  .exact⟨λxs q=>(by rw[z,hs]at q;cases q),λo u q=>(by rw[z,hs]at q;cases q)⟩
  .rcases Qad.mp z with z|z
   .exact⟨λxs q=>(by rw[z,hd]at q;cases q),λo u q=>(by rw[z,hd]at q;cases q)⟩
   .exact Reps.kind ds vs fp' hr b z
 | .dk ks ds,v,fp,h,b,hb=>by
  simp only[Rep]at h;obtain⟨a,vs,fp',e,rfl,hs,hl,hr⟩:=h;rcases Qad.mp hb with z|z
  .exact⟨λxs q=>(by rw[z,hs]at q;cases q),λo u q=>(by rw[z,hs]at q;cases q)⟩
  .exact Reps.kind ds vs fp' hr b z
 | .dt ks ds,v,fp,h,b,hb=>by
  simp only[Rep]at h;obtain⟨a,es,ep,vs,fp',e,hk,hv,ht,hr,hs⟩:=h;rcases hs with⟨rfl,hs⟩|⟨_,rfl,o,hs⟩
  .rcases Qad.mp hb with z|z
   .exact⟨λxs q=>(by rw[z,hs]at q;cases q),λo u q=>(by rw[z,hs]at q;cases q)⟩
   .exact Reps.kind ds vs fp' hr b z
  .exact Reps.kind ds vs fp hr b hb
 | .exc C,v,fp,h,b,hb=>by
  simp only[Rep]at h;obtain⟨a,e,rfl,hs⟩:=h;rw[Qay.mp hb];exact⟨λxs q=>(by rw[hs]at q;cases q),λo u q=>(by rw[hs]at q;cases q)⟩
 | .fn a vs ds,v,fp,h,b,hb=>by
  simp only[Rep]at h;exact Reps.kind ds vs fp h.2 b hb
theorem Reps.kind{K:Frag}{st:Bool}{H:Hp}:∀(ds:Ab D) (vs:Ab V) (fp:Ab Af),Reps K st H ds vs fp->∀b∈fp,(∀xs,H b≠some (.tup xs))/\∀o u,H b≠some (.frz o u)
 |[],vs,fp,h,b,hb=>by simp only[Reps]at h;rw[h.2]at hb;cases hb
 |d::ds,vs,fp,h,b,hb=>by
  simp only[Reps]at h;obtain⟨v,r,f1,f2,e1,rfl,h1,h2⟩:=h;rcases Qah.mp hb with z|z
  .exact Rep.kind d v f1 h1 b z
  .exact Reps.kind ds r f2 h2 b z
end
def SInv.lower{K:Frag}{P f H:Hp}{σ:L2.St}{env:En}(s:Same P f)(h:SInv K f H σ env):SInv K P H σ env :=
 ⟨s.trans h.same,h.len,let ⟨F,hF⟩:=h.ex;⟨F,hF.ok,λi d e=>let ⟨a,b,c,q⟩:=hF.own i d e;⟨a,λx hx=>s.free (b x hx),c,q⟩⟩⟩
def Z2f{K:Frag}{P H:Hp}{σ:L2.St}{env:En}{F:Nat->Ab Af}{d:D}{v:V}{fp:Ab Af}(i:Nat)(u:σ.length=env.length)(h:EnvS K P H σ env F)(r:Rep K false H d v fp)
  (fr:∀j d',env[j]?=some (some (true,d'))->∀b∈F j,b∉fp):EnvS K P H (σ.set i (some v)) (env.set i (some (false,d))) (Z0X F i fp):=by
 refine⟨?_,?_⟩
 .intro j o d' e;by_cases hi:i<env.length
  .rw[cS hi]at e;by_cases f:j=i
   .subst f;rw[if_pos rfl]at e;cases e;exact⟨v,Qaw (by omega),by rw[cH];exact r⟩
   .rw[if_neg f]at e;obtain⟨w,h1,h2⟩:=h.ok j o d' e;exact⟨w,by rw[Qak (Ne.symm f)];exact h1,by rw[bH f];exact h2⟩
  .rw[QaM (by omega)]at e;have f:j≠i:=λz=>by rw[z,Qas (by omega)]at e;cases e
   obtain⟨w,h1,h2⟩:=h.ok j o d' e;exact⟨w,by rw[Qak (Ne.symm f)];exact h1,by rw[bH f];exact h2⟩
 .intro j d' e;have a:j≠i:=by
   rintro rfl;by_cases hi:j<env.length
   .rw[cS hi,if_pos rfl]at e;cases e
   .rw[QaM (by omega),Qas (by omega)]at e;cases e
  rw[Qak (Ne.symm a)]at e;obtain⟨q,t,p,n⟩:=h.own j d' e;refine⟨by rw[bH a];exact q,λb hb=>t b (by rw[bH a]at hb;exact hb),λw hw=>?_,λk s' hk ek b hb=>?_⟩
  .rw[Qak (Ne.symm a)]at hw;rw[bH a];exact p w hw
  .rw[bH a]at hb;by_cases l:k=i
   .subst l;rw[cH];exact fr j d' e b hb
   .rw[Qak (Ne.symm l)]at ek;rw[bH l];exact n k s' hk ek b hb
def tDG(K:Frag)(t:D->En->Aa En):TG:=λv σ H Q=>∃P env F d fp env',Same P H/\σ.length=env.length/\EnvS K P H σ env F/\Rep K false H d v fp/\(∀j d',env[j]?=some (some (true,d'))->∀b∈F j,b∉fp)/\t d env=some env' /\
 ∀σ',SInv K P H σ' env'->Q σ' H
def QG(X:Cx)(tg:Ag)(t:D->En->Aa En):Prop:=PG X tg (tDG X.K t)
def QG.mk(h:PG X tg g)(hi:∀v σ H Q,tDG X.K t v σ H Q->g v σ H Q):QG X tg t:=λpins s σ H v u Q I r q=>h pins s σ H v u Q I r (hi v σ H Q q)
def gtN(i:Nat):D->En->Aa En:=λd env=>some (env.set i (some (false,d)))
def jE:Ab Nat->Ab D->En->Aa En
 |[],[],env=>some env
 |i::is,d::ds,env=>jE is ds (env.set i (some (false,d)))
 |_,_,_=>none
def gtT(is:Ab Nat):D->En->Aa En:=λd env=>match d with
 | .tup ds=>jE is ds env
 |_=>none
def Z0V:Ab Nat->TGs
 |[]=>Zav
 |i::is=>Z8n (D5 i) (Z0V is)
theorem wS:∀{is:Ab Nat}{ds:Ab D}{env env':En},jE is ds env=some env'->is.length=ds.length
 |[],[],_,_,_=>rfl
 |i::is,d::ds,env,env',h=>by simp only[jE]at h;simp[wS h]
 |[],_::_,_,_,h=>by simp[jE]at h
 |_::_,[],_,_,h=>by simp[jE]at h
theorem xS{K:Frag}{P H:Hp}{Q:L2.St->Hp->Prop}:∀{is:Ab Nat}{ds:Ab D}{vs:Ab V}{fp:Ab Af}{σ:L2.St}{env env':En}{F:Nat->Ab Af},Same P H->σ.length=env.length->EnvS K P H σ env F->Reps K false H ds vs fp ->
  (∀j d',env[j]?=some (some (true,d'))->∀b∈F j,b∉fp)->jE is ds env=some env'->(∀σ',SInv K P H σ' env'->Q σ' H)->Z0V is vs σ H Q
 |[],[],vs,fp,σ,env,env',F,sm,hl,h,r,fr,e,q=>by
  simp only[Reps]at r;simp only[jE]at e;cases e;exact⟨r.1,q σ ⟨sm,hl,F,h⟩⟩
 |i::is,d::ds,vs,fp,σ,env,env',F,sm,hl,h,r,fr,e,q=>by
  simp only[Reps]at r;obtain⟨v,us,f1,n,rfl,rfl,f,l⟩:=r;simp only[jE]at e;refine⟨v,us,rfl,?_⟩;have h':=Z2f i hl h f λj d' ej b hb z=>fr j d' ej b hb (Qan _ z);refine xS (is:=is) (ds:=ds) sm (by simp[hl]) h' l (λj d' ej b hb z=>?_) e q;have a:j≠i:=by
   rintro rfl;by_cases hi:j<env.length
   .rw[cS hi,if_pos rfl]at ej;cases ej
   .rw[QaM (by omega),Qas (by omega)]at ej;cases ej
  rw[Qak (Ne.symm a)]at ej;rw[bH a]at hb;exact fr j d' ej b hb (Qae _ z)
 |[],_::_,_,_,_,_,_,_,_,_,_,_,_,h,_=>by simp[jE]at h
 |_::_,[],_,_,_,_,_,_,_,_,_,_,_,h,_=>by simp[jE]at h
section
variable {X:Cx}{m:Bool}{rs:Ab Nat}{e a b c iter tg:Ag}{es:Ab Ag}{f:En->Aa D}{pos:Pos}{body:Ab Stmt}{g h:En->Res}{i:Nat}{x:Str}{src:En->Aa (Ab D)}{t:D->En->Aa En}
def Z6R(b:X.N.Nodup)(hi:X.N[i]?=some x)(f:Loc X.env.scope x)(a:X.fn x=true\/X.env.scope.names.lookup x=some .local:=by first|exact .inl rfl|exact .inr rfl|assumption):QG X (.Name x pos) (gtN i) :=
 .mk (gH b hi f a) λv σ H Q ⟨P,env,F,d,fp,env',sm,hl,hF,r,fr,e,q⟩=>by
  cases e;exact q _ (Q4 i sm hl hF (Same.refl H) r fr)
def Z0r(hc:X.calm=true)(h:PGs X es (Z0V is))(b:is.length=n)(o:(assignEach es X.env).length=n:=by rfl)(f:(assignEach es X.env).findIdx? (·.1)=none:=by rfl):QG X (.Tuple es k pos) (gtT is) :=
 .mk (Z97 hc h o f) λv σ H Q ⟨P,env,F,d,fp,env',sm,hl,hF,r,fr,e,q⟩=>by
  cases d with
  |tup ds =>
   simp only[Rep]at r;obtain⟨a,vs,rfl,l,j⟩:=r;have i:jE is ds env=some env':=e;exact⟨a,vs,rfl,l,by rw[j.length,<- wS i,b],xS sm hl hF j fr i q⟩
  |_=>cases e
def Z4m(rs:Ab Nat)(t:D->En->Aa En)(f:En->Aa D):En->Res:=λenv=>match f env with
 |some d=>match t d (fz rs env) with
  |some env'=>.next env'
  |none=>.bad
 |none=>.bad
def Z8T(he:QE X m rs e f)(b:QG X tg t)(hs:swapsWithSole [tg] e pos.line X.env=pure false:=by rfl)(hw:swappedStores [tg] e X.env=pure none:=by rfl)
  (hps:PS X (.Assign [tg] e pos) (Z2e (tD X.K m rs f) (tDG X.K t))):QS X (.Assign [tg] e pos) (Z4m rs t f):=.mk hps λE σ H ⟨P,env,I,q⟩=>by
 obtain⟨F,hF⟩:=I.ex;unfold Z4m at q;split at q
 .rename_i d h1;split at q
  .rename_i a h2;refine⟨env,nrm env F,d,hF.nrm.ok,h1,λv H' fp s r c=>⟨P,fz rs env,nrm env F,d,fp,a,I.same.trans s,by rw[yH];exact I.len,(hF.nrm.fz rs).grow s,Rep.weak _ _ _ r,qU hF c,h2,λσ' I'=>q σ' H' I'⟩⟩
  .exact q.elim
 .exact q.elim
def pI(t:D->En->Aa En)(g:En->Res):Ab D->En->Res
 |[],env=>.next env
 |d::r,env=>match t d env with
  |none=>.bad
  |some env1=>match g env1 with
   | .next e=>pI t g r e
   | .cont e=>pI t g r e
   | .brk e=>.next e
   | .ret d=>.ret d
   | .bad=>.bad
def iY(rs:Ab Nat)(src:En->Aa (Ab D))(t:D->En->Aa En)(g:En->Res):En->Res:=λenv=>match src env with
 |some ds=>pI t g ds (fz rs env)
 |none=>.bad
open Classical in
def iB(hc:X.calm=true)(hp:PassesOwn (model X.prog X.w) X.A X.env X.xe)(hi:QI X tg rs iter src)(n:QG X tg t)(a:QSs X body g)(hs:∀x,foldedSetIterable iter X.env x=pure x:=by intro _;rfl) :
  QS X (.For tg iter body [] pos) (iY rs src t g):=.mk (Z0u hp hc hi n a hs) λE σ H ⟨P,env,I,q⟩=>by
 obtain⟨F,hF⟩:=I.ex;unfold iY at q;split at q
 .rename_i ds h1;refine⟨env,nrm env F,ds,hF.nrm.ok,h1,λJ H1 fp s1 gv dm cd=>?_⟩;have ap:=qU hF cd
  let O:Af->Prop:=λb=>∃j d,(fz rs env)[j]?=some (some (true,d))/\b∈nrm env F j
  let h:Hp:=λb=>if O b then none else H1 b
  have p:EnvS X.K P H1 σ (fz rs env) (nrm env F):=(hF.nrm.fz rs).grow s1;have y:∀b,O b->(∀xs,H1 b≠some (.tup xs))/\∀o u,H1 b≠some (.frz o u):=λb ⟨j,d,e,a⟩=>by
   obtain⟨v,hv,r⟩:=p.ok j true d e;exact Rep.kind _ _ _ r b a
  have pn:∀{b:Af},¬O b->h b=H1 b:=λhn=>if_neg hn;have Z:∀{b:Af},O b->h b=none:=λf=>if_pos f;have sP1:Same h H1:=λb o e=>by
   by_cases f:O b
   .rw[Z f]at e;cases e
   .rw[pn f]at e;exact e
  have M:Same P h:=λb o e=>by
   have f:¬O b:=λ⟨j,d,G,a⟩=>by
    have:=(p.own j d G).2.1 b a;rw[this]at e;cases e
   rw[pn f];exact s1 _ _ (I.same _ _ e)
  have Q:∀b∈fp,¬O b:=λb a ⟨j,d,G,hb'⟩=>ap j d G b hb' a;have kp:∀{l:Hp},Same h l->Kp fp H1 l:=λT=>⟨λb a o e=>T _ _ (by rw[pn (Q b a)];exact e),
   λb xs e=>T _ _ (by rw[pn (λf=>(y b f).1 _ e)];exact e),
   λb o u e=>T _ _ (by rw[pn (λf=>(y b f).2 _ _ e)];exact e)⟩
  refine⟨λi k σ' H'=>i<=ds.length/\k=ds.length-i/\∃env',SInv X.K h H' σ' env'/\Post X.K P E (pI t g (ds.drop i) env'),
   ⟨ds.length,QaY _,rfl,fz rs env,⟨sP1,by rw[yH];exact I.len,nrm env F,p.ok,λj d e=>?_⟩,by simpa using q⟩,?_⟩
  .obtain⟨a1,a2,a3,a4⟩:=p.own j d e;exact⟨a1,λb a=>Z ⟨j,d,e,a⟩,a3,a4⟩
  .rintro i k σ' H' ⟨hi,hk,env',I',q'⟩;have Y:=gv H' (kp I'.same) i;by_cases C:i<ds.length
   .right;have hd:ds[i]?=some ds[i]:=Qaj C;obtain⟨go,hy⟩:=Y.1 _ hd;have N:ds.drop i=ds[i]::ds.drop (i+1):=Qbl C;rw[N]at q';refine⟨go,λσ2 l=>∃env2,SInv X.K h l σ2 env2/\Post X.K P E (pI t g (ds.drop (i+1)) env2),λσ2 l ⟨env2,B,q2⟩=>⟨ds.length-(i+1),by omega,C,rfl,env2,B,q2⟩,λx l y2=>?_⟩;obtain⟨a0,f2,r2,L⟩:=hy x l y2;unfold pI at q';cases S:t ds[i] env' with
    |none=>rw[S]at q';exact q'.elim
    |some env1 =>
     rw[S]at q';simp only at q';have B:=I'.grow a0;obtain⟨F2,R⟩:=B.ex;refine⟨h,env',F2,_,f2,env1,B.same,B.len,R,r2,λj d' G b a z=>?_,S,λσ3 I3=>⟨h,env1,I3,?_⟩⟩
     .have U:=(R.own j d' G).2.1 b a;rw[pn (Q b (L b z))]at U;obtain⟨o,ho⟩:=dm b (L b z);rw[U]at ho;cases ho
     .cases n:g env1 with
      |next e2=>rw[n]at q';exact λσ4 H4 I4=>⟨e2,I4,q'⟩
      |cont e2=>rw[n]at q';exact λσ4 H4 I4=>⟨e2,I4,q'⟩
      |brk e2=>rw[n]at q';exact λσ4 H4 I4=>q' σ4 H4 (I4.lower M)
      |ret d=>rw[n]at q';exact λv H4 fp4 s4 r4 n4 nd4=>q' v H4 fp4 (M.trans s4) r4 (λb a=>M.free (n4 b a)) nd4
      |bad=>rw[n]at q';exact q'.elim
   .left;have W:i=ds.length:=by omega
    rw[W,List.drop_length]at q';exact⟨Y.2 (by omega),q' σ' H' (I'.lower M)⟩
 .exact q.elim
end
def enStart(L:Nat)(ds:Ab D):En:=ds.map (λd=>some (false,d))++List.replicate (L-ds.length) none
def runF(L:Nat)(g:En->Res):Ab D->Aa D:=λds=>match g (enStart L ds) with
 | .ret d=>some d
 | .next _=>some .non
 |_=>none
theorem K1{K:Frag}{H:Hp}{st:Bool}:∀{ds:Ab D}{vs:Ab V}{fp:Ab Af},Reps K st H ds vs fp->∃F:Nat->Ab Af,∀i d,ds[i]?=some d->∃v,vs[i]?=some v/\Rep K st H d v (F i)
 |[],vs,fp,_=>⟨λ_=>[],λi d e=>by simp at e⟩
 |d::ds,vs,fp,r=>by
  simp only[Reps]at r;obtain⟨v,us,f1,f,rfl,rfl,b,a⟩:=r;obtain⟨F,hF⟩:=K1 a;refine⟨λi=>match i with|0=>f1|i+1=>F i,λi d' e=>?_⟩
  cases i with
  |zero=>simp at e;subst e;exact⟨v,rfl,b⟩
  |succ i =>
   obtain⟨w,h1,h2⟩:=hF i d' (by simpa using e);exact⟨w,by simpa using h1,h2⟩
def mL{K:Frag}{H:Hp}{N:Ab Str}{ds:Ab D}{vs:Ab V}{fp:Ab Af}(r:Reps K false H ds vs fp):SInv K H H (L2.start N vs) (enStart N.length ds):=by
 obtain⟨F,hF⟩:=K1 r;refine⟨Same.refl H,by simp[L2.start,enStart,r.length],F,λi o d e=>?_,λi d e=>?_⟩
 .unfold enStart at e;by_cases hi:i<ds.length
  .rw[QaB (by simpa using hi),QaD]at e;cases hd:ds[i]? with
   |none=>rw[hd]at e;cases e
   |some d' =>
    rw[hd]at e;cases e;obtain⟨v,h1,h2⟩:=hF i d hd;refine⟨v,?_,h2⟩;unfold L2.start;rw[QaB (by rw[Qab,r.length];exact hi),QaD,h1];rfl
  .rw[QaQ (by simpa using hi),Qba]at e;split at e<;>cases e
 .unfold enStart at e;by_cases hi:i<ds.length
  .rw[QaB (by simpa using hi),QaD]at e;cases hd:ds[i]? with
   |none=>rw[hd]at e;cases e
   |some d'=>rw[hd]at e;cases e
  .rw[QaQ (by simpa using hi),Qba]at e;split at e<;>cases e
structure FunD(K:Frag)(x qual:Str)(st:Stmt)(f:Addr)(fd:FuncData):Prop where
 ex:∃(oc:Ad) (od:Aa Af) (dV kV doc pm:Ad) (an:Aa Af) (cdv ct:Ad) (osl:Ae (Aa Ad)),
  fd=fnOf x qual (dL st) (cB st) (aR st) dV kV doc pm an cdv ct/\K.lookup f=some ⟨oc,od,.func fd,osl⟩/\codeIn K cdv qual=true
 kp:keepIn K (.ref f)=true
def rW{K:Frag}{x qual:Str}{st:Stmt}{f:Af}{n:Ad}{o an:Aa Af}{h:Ae (Aa Ad)}{i kV b j a ct:Ad}(l:K.lookup f=some ⟨n,o,.func (fnOf x qual (dL st) (cB st) (aR st) i kV b j an a ct),h⟩)
  (c:codeIn K a qual=true) (k:keepIn K (.ref f)=true):FunD K x qual st f (fnOf x qual (dL st) (cB st) (aR st) i kV b j an a ct) :=
 ⟨⟨n,o,i,kV,b,j,an,a,ct,h,rfl,l,c⟩,k⟩
def FunD.ok{P:Aj}{w:Ak}{K:Frag}{mg:Str->Aa Ad}{base:Ah}{x qual:Str}{st:Stmt}{f:Af}{fd:FuncData}{N ps:Ab Str}{k n L:Nat}{g:En->Res}(F:FunD K x qual st f fd)(S:eT N ps (aR st))(o:ps.length=n)(t:N.length=L)
  (j:∀(a:Ad) (A:Ai) (outer:Ab Env) (s:Ac) (H:Hp) (E:XK),Room k (A.deeper (envOfC qual (aR st) s.heap.objs.size f a))->QSs (uH CX0 P w K mg base N qual (aR st) f a A outer s H E).nox (cB st) g) :
  gT P w K mg base CX0 (k+1) f fd ps (spD K n (runF L g)):=by
 subst o t;obtain⟨B,I,C,kV,y,G,an,a,ct,u,rfl,p,l⟩:=F.ex;refine X4 p l S (λvs H Q E h=>Z6h h) λA outer s H vs Q E hr hsp=>?_;obtain⟨ds,d,fp,h1,h2,h3,q⟩:=hsp;have hq:=j a A outer s H E hr;refine⟨_,PSs.nox hq,H,enStart N.length ds,mL h2,?_⟩;unfold runF at h3;cases i:g (enStart N.length ds) with
 |ret d' =>
  rw[i]at h3;cases h3;exact λv H' fp' s r fr nd=>q v H' fp' s r fr nd
 |next env' =>
  rw[i]at h3;cases h3;exact λσ' H' I'=>q .non H' [] I'.same mQ (λb j=>(by cases j)) Qaz
 |brk _=>rw[i]at h3;cases h3
 |cont _=>rw[i]at h3;cases h3
 |bad=>rw[i]at h3;cases h3
open PySem PySem.Spec PyProof.Rows L2 PySem.SeqAt
def eqL(f:D->D->Aa Bool):Ab D->Ab D->Aa Bool
 |x::xs,y::ys=>match f x y,eqL f xs ys with
  |some a,some b=>some (a&&b)
  |_,_=>none
 |_,_=>some true
def eqN:Nat->D->D->Aa Bool
 |0,_,_=>none
 |_+1,.non,.non=>some true
 |_+1,.bl a,.bl b=>some (a==b)
 |_+1,.int a,.int b=>some (a==b)
 |_+1,.str a,.str b=>some (a==b)
 |_+1,.non,.int _=>some false
 |_+1,.non,.str _=>some false
 |_+1,.int _,.non=>some false
 |_+1,.str _,.non=>some false
 |_+1,.int _,.str _=>some false
 |_+1,.str _,.int _=>some false
 |n+1,.tup xs,.tup ys=>(eqL (eqN n) xs ys).map (· && xs.length==ys.length)
 |_+1,.tup _,.non=>some false
 |_+1,.non,.tup _=>some false
 |n+1,.lst xs,.lst ys=>if xs.length=ys.length then eqL (eqN n) xs ys else some false
 |_+1,.lst _,.non=>some false
 |_+1,.non,.lst _=>some false
 |_,_,_=>none
theorem yN:∀{xs ys:Ab D}{k:Bool},eqL f xs ys=some k->∃e:Nat->Bool,(∀j x y,xs[j]?=some x->ys[j]?=some y->f x y=some (e j))/\(List.range (min xs.length ys.length)).all e=k
 |[],ys,k,h=>by simp only[eqL]at h;cases h;exact⟨λ_=>true,λj x y h=>by simp at h,by simp⟩
 |x::xs,[],k,h=>by simp only[eqL]at h;cases h;exact⟨λ_=>true,λj x y _ h=>by simp at h,by simp⟩
 |x::xs,y::ys,k,h=>by
  simp only[eqL]at h;split at h
  .rename_i a b h1 h2;cases h;obtain⟨e,l,i⟩:=yN h2;refine⟨λj=>match j with|0=>a|j+1=>e j,λj x' y' e1 e2=>?_,?_⟩
   .cases j with
    |zero=>simp at e1 e2;subst e1 e2;exact h1
    |succ j=>exact l j x' y' (by simpa using e1) (by simpa using e2)
   .simp only[Qaf,Nat.succ_min_succ,List.range_succ_eq_map,List.all_cons,List.all_map];rw[<- i];congr 1
  .cases h
def Z1t(I:Inv X pins σ H s):∀(n:Nat) (a b:D) (v:V) (f1 l:Ab Af) (k:Bool),Rep X.K st1 H a v f1->Rep X.K st2 H b v l->eqN n a b=some k->k=true:=by
 intro n
 induction n with
 |zero=>intro a b v f1 l k _ _ e;simp[eqN]at e
 |succ n ih =>
  have r:∀(xs ys:Ab D) (vs:Ab V) (f1 l:Ab Af) (k:Bool),Reps X.K st1 H xs vs f1->Reps X.K st2 H ys vs l->eqL (eqN n) xs ys=some k->k=true:=by
   intro xs
   induction xs with
   |nil=>intro ys vs f1 l k _ _ e;simp only[eqL]at e;cases e;rfl
   |cons x xs ihx =>
    intro ys vs f1 l k u A e;cases ys with
    |nil=>simp only[eqL]at e;cases e;rfl
    |cons y ys =>
     simp only[Reps]at u A;obtain⟨v,us,R,O,rfl,_,F,G⟩:=u;obtain⟨N,L,Q,P,o,_,E,C⟩:=A;cases o;simp only[eqL]at e;split at e
     .rename_i c d h1 h2;cases e;rw[ih _ _ _ _ _ _ F E h1,ihx _ _ _ _ _ G C h2];rfl
     .cases e
  intro a b v f1 l k f i e;cases a<;>cases b<;>simp only[eqN,Rep]at f i e<;>try (cases e;done)
  all_goals first
   |(cases e;rfl)
   |(obtain⟨rfl,_⟩:=f;obtain⟨h,_⟩:=i;cases h;cases e;simp;done)
   |(obtain⟨rfl,_⟩:=f;obtain⟨h,_⟩:=i;cases h;done)
   |(obtain⟨rfl,_⟩:=f;obtain⟨_,_,h,_⟩:=i;cases h;done)
   |(obtain⟨rfl,_⟩:=f;obtain⟨_,_,_,h,_⟩:=i;cases h;done)
   |(obtain⟨rfl,_⟩:=i;obtain⟨_,_,h,_⟩:=f;cases h;done)
   |(obtain⟨rfl,_⟩:=i;obtain⟨_,_,_,h,_⟩:=f;cases h;done)
   |skip
  .-- tuples
   rename_i xs ys;obtain⟨a,vs,rfl,hs,p⟩:=f;obtain⟨J,B,o,q,j⟩:=i;cases o;obtain rfl:=I.tuple_inj hs q;cases hq:eqL (eqN n) xs ys with
   |none=>rw[hq]at e;cases e
   |some c =>
    rw[hq]at e;cases e;have:=r _ _ _ _ _ _ p j hq;subst this;have l1:=p.length;have l2:=j.length;simp[<- l1,<- l2]
  .rename_i xs ys;have w:Rep X.K st1 H (.lst xs) v f1:=by simp only[Rep];exact f
   have t:Rep X.K st2 H (.lst ys) v l:=by simp only[Rep];exact i
   obtain⟨a,vs,M,rfl,hs,p,_⟩:=cC w;obtain⟨J,B,fp2,o,q,j,_⟩:=cC t;cases o;obtain rfl:=I.list_inj hs q;have l1:=p.length;have l2:=j.length;rw[if_pos (by rw[<- l1,<- l2])]at e;exact r _ _ _ _ _ _ p j e
def pG(A:Ai):A.in1.units=A.units+1:=rfl
def Z1Y(I:Inv X pins σ H s):∀(n:Nat) (A:Ai) (a b:D) (v u:V) (r l:Ad) (f1 f2:Ab Af) (k:Bool),A.units+n<=cLine->Rep X.K st1 H a v f1->Rep X.K st2 H b u f2->RelV v r->RelV u l->eqN n a b=some k ->
  EqAt A s r l k/\RcAt A s r l k/\RcNeAt A s r l (!k):=by
 intro n
 induction n with
 |zero=>intro A a b v u r l f1 f2 k _ _ _ _ _ e;simp[eqN]at e
 |succ n ih =>
  intro A a b v u r l f1 f2 k hu E o O q e;have f:A.units<cLine:=by omega
  have G:∀{xs ys:Ab D}{vs us:Ab V}{its h:Ab Ad}{J P:Ab Af}{T:Nat->Bool},Reps X.K st1 H xs vs J->Reps X.K st2 H ys us P->Vals vs its->Vals us h->(∀j x y,xs[j]?=some x->ys[j]?=some y->eqN n x y=some (T j)) ->
    ∀j (h1:j<its.toArray.size) (h2:j<h.toArray.size),EqAt A.in1 s its.toArray[j] h.toArray[j] (T j):=by
   intro xs ys vs us its h J P T r1 r2 w1 C he j h1 h2;have l1:=r1.length;have l2:=r2.length;have W:=w1.length;have Y:=C.length;have j1:j<xs.length:=by simp at h1;omega
   have j2:j<ys.length:=by simp at h2;omega
   obtain⟨v1,_,a1,a2,_⟩:=r1.get (Qaj j1);obtain⟨v2,_,b1,b2,_⟩:=r2.get (Qaj j2);obtain⟨u1,c1,c2⟩:=w1.get a1;obtain⟨u2,d1,d2⟩:=C.get b1;have e1:its.toArray[j]=u1:=by have:=Qac.mp c1;obtain⟨_,z⟩:=this;simpa using z
   have e2:h.toArray[j]=u2:=by have:=Qac.mp d1;obtain⟨_,z⟩:=this;simpa using z
   rw[e1,e2];exact(ih A.in1 _ _ _ _ _ _ _ _ _ (by rw[pG];omega) a2 b2 c2 d2 (he j _ _ (Qaj j1) (Qaj j2))).1
  cases a with
  |non =>
   have hv:v=.non:=fF E;subst hv;cases (show r=Value.none from O)
   cases b with
   |non =>
    cases fF o;cases (show l=Value.none from q)
    simp only[eqN]at e;cases e;exact⟨EqAt.same _,RcAt.none_none,RcNeAt.none_none⟩
   |int i =>
    cases bP o;obtain⟨t,rfl⟩:=(show ∃t,l=Value.int i t from q)
    simp only[eqN]at e;cases e;exact⟨EqAt.none_int _ _,RcAt.none_int _ _,RcNeAt.none_int _ _⟩
   |str i =>
    cases cP o;obtain⟨t,rfl⟩:=(show ∃t,l=Value.str i t from q)
    simp only[eqN]at e;cases e;exact⟨EqAt.none_str _ _,RcAt.none_str _ _,RcNeAt.none_str _ _⟩
   |tup ys =>
    simp only[Rep]at o;obtain⟨p,us,rfl,hs,F⟩:=o;cases (show l=Value.ref p from q)
    obtain⟨its,w1,pl,_⟩:=I.tuple hs;simp only[eqN]at e;cases e;exact⟨EqAt.none_tuple pl f,RcAt.none_tuple pl f,RcNeAt.none_tuple pl f⟩
   |lst ys =>
    obtain⟨p,us,_,rfl,hs,F,_⟩:=cC o;cases (show l=Value.ref p from q)
    obtain⟨its,w1,pl,_⟩:=I.list hs;simp only[eqN]at e;cases e;exact⟨EqAt.none_list pl.isList f,RcAt.none_list pl.isList f,RcNeAt.none_list pl.isList f⟩
   |_=>simp only[eqN]at e;cases e
  |bl x =>
   cases fI E;cases (show r=Value.bool x from O)
   cases b with
   |bl y =>
    cases fI o;cases (show l=Value.bool y from q)
    simp only[eqN]at e;cases e;exact⟨EqAt.bool_bool _ _,RcAt.bool_bool _ _,RcNeAt.bool_bool _ _⟩
   |_=>simp only[eqN]at e;cases e
  |int x =>
   cases bP E;obtain⟨t,rfl⟩:=(show ∃t,r=Value.int x t from O)
   cases b with
   |int y =>
    cases bP o;obtain⟨t',rfl⟩:=(show ∃t,l=Value.int y t from q)
    simp only[eqN]at e;cases e;exact⟨EqAt.int_int _ _ _ _,RcAt.int_int _ _ _ _,RcNeAt.int_int _ _ _ _⟩
   |non =>
    cases fF o;cases (show l=Value.none from q)
    simp only[eqN]at e;cases e;exact⟨EqAt.int_none _ _,RcAt.int_none _ _,RcNeAt.int_none _ _⟩
   |str y =>
    cases cP o;obtain⟨t',rfl⟩:=(show ∃t,l=Value.str y t from q)
    simp only[eqN]at e;cases e;exact⟨EqAt.int_str _ _ _ _,RcAt.int_str _ _ _ _,RcNeAt.int_str _ _ _ _⟩
   |_=>simp only[eqN]at e;cases e
  |str x =>
   cases cP E;obtain⟨t,rfl⟩:=(show ∃t,r=Value.str x t from O)
   cases b with
   |int y =>
    cases bP o;obtain⟨t',rfl⟩:=(show ∃t,l=Value.int y t from q)
    simp only[eqN]at e;cases e;exact⟨EqAt.str_int _ _ _ _,RcAt.str_int _ _ _ _,RcNeAt.str_int _ _ _ _⟩
   |non =>
    cases fF o;cases (show l=Value.none from q)
    simp only[eqN]at e;cases e;exact⟨EqAt.str_none _ _,RcAt.str_none _ _,RcNeAt.str_none _ _⟩
   |str y =>
    cases cP o;obtain⟨t',rfl⟩:=(show ∃t,l=Value.str y t from q)
    simp only[eqN]at e;cases e;exact⟨EqAt.str_str _ _ _ _,RcAt.str_str _ _ _ _,RcNeAt.str_str _ _ _ _⟩
   |_=>simp only[eqN]at e;cases e
  |tup xs =>
   have ra':=E;simp only[Rep]at E;obtain⟨p,vs,rfl,hs,F⟩:=E;cases (show r=Value.ref p from O)
   obtain⟨its,w1,pl,_⟩:=I.tuple hs;cases b with
   |non =>
    cases fF o;cases (show l=Value.none from q)
    simp only[eqN]at e;cases e;exact⟨EqAt.tuple_none pl f,RcAt.tuple_none pl f,RcNeAt.tuple_none pl f⟩
   |tup ys =>
    have rb':=o;simp only[Rep]at o;obtain⟨M,us,rfl,R,w⟩:=o;cases (show l=Value.ref M from q)
    obtain⟨h,C,B,_⟩:=I.tuple R;have e0:=e;simp only[eqN]at e;cases hq:eqL (eqN n) xs ys with
    |none=>rw[hq]at e;cases e
    |some c =>
     rw[hq]at e;cases e;obtain⟨T,J,P⟩:=yN hq;have l1:=F.length;have l2:=w.length;have W:=w1.length;have Y:=C.length;have es:(its.toArray.size==h.toArray.size)=(xs.length==ys.length):=by simp[<- l1,<- l2,W,Y]
     have Z:min its.toArray.size h.toArray.size=min xs.length ys.length:=by simp[<- l1,<- l2,W,Y]
     have N:=RcAt.tuples pl B f (G F w w1 C J);have U:=RcNeAt.tuples pl B f (G F w w1 C J);rw[es,Z,P]at N U;refine⟨?_,N,U⟩;by_cases S:p=M
     .subst S;have:=Z1t I _ _ _ _ _ _ _ ra' rb' e0;rw[this];exact EqAt.same _
     .exact EqAt.of_refs S N
   |_=>simp only[eqN]at e;cases e
  |lst xs =>
   obtain⟨p,vs,_,rfl,hs,F,_⟩:=cC E;cases (show r=Value.ref p from O)
   obtain⟨its,w1,pl,_⟩:=I.list hs;cases b with
   |non =>
    cases fF o;cases (show l=Value.none from q)
    simp only[eqN]at e;cases e;exact⟨EqAt.list_none pl.isList f,RcAt.list_none pl.isList f,RcNeAt.list_none pl.isList f⟩
   |lst ys =>
    obtain⟨M,us,_,rfl,R,w,_⟩:=cC o;cases (show l=Value.ref M from q)
    obtain⟨h,C,B,_⟩:=I.list R;have e0:=e;simp only[eqN]at e;have l1:=F.length;have l2:=w.length;have W:=w1.length;have Y:=C.length;have Q:RcAt A s (.ref p) (.ref M) k/\RcNeAt A s (.ref p) (.ref M) (!k):=by
     by_cases hl:xs.length=ys.length
     .rw[if_pos hl]at e;obtain⟨T,J,P⟩:=yN e;have L:its.toArray.size=h.toArray.size:=by simp;omega
      have Z:its.toArray.size=min xs.length ys.length:=by simp;omega
      have N:=RcAt.lists pl.isList B.isList L f (G F w w1 C J);have U:=RcNeAt.lists pl.isList B.isList L f (G F w w1 C J);rw[Z,P]at N U;exact⟨N,U⟩
     .rw[if_neg hl]at e;cases e;have L:(its.toArray.size != h.toArray.size)=true:=by simp;omega
      exact⟨RcAt.lists_lengths pl.isList B.isList L f,RcNeAt.lists_lengths pl.isList B.isList L f⟩
    refine⟨?_,Q.1,Q.2⟩;by_cases S:p=M
    .subst S;have:=Z1t I _ _ _ _ _ _ _ E o e0;rw[this];exact EqAt.same _
    .exact EqAt.of_refs S Q.1
   |_=>simp only[eqN]at e;cases e
  |obj _ _ _=>simp only[eqN]at e;cases e
  |dk _ _=>simp only[eqN]at e;cases e
  |dt _ _=>simp only[eqN]at e;cases e
  |exc _=>simp only[eqN]at e;cases e
  |fn _ _ _=>simp only[eqN]at e;cases e
def fEq(fa fb:En->Aa D):En->Aa Bool:=λenv=>match fa env,fb env with
 |some x,some y=>eqN 8 x y
 |_,_=>none
def Z8Q(neg:Bool)(K:Frag):R2:=λv u H Q=>∃a b f1 f2 k st1 st2,Rep K st1 H a v f1/\Rep K st2 H b u f2/\eqN 8 a b=some k/\Q (.bl (if neg then !k else k)) H
def Z0z(f:X.A.units+8<=cLine):OpR X (compareOp .Eq) (Z8Q false X.K):=λpins s σ H x y v u Q I rx ry ⟨a,b,f1,f2,k,st1,st2,r1,r2,e,q⟩ =>
 (Z1Y I 8 X.A a b x y v u f1 f2 k f r1 r2 rx ry e).2.1 _ _ _ _ ⟨.bl k,H,I,rfl,q⟩
def Z4M(f:X.A.units+8<=cLine):OpR X (compareOp .NotEq) (Z8Q true X.K):=λpins s σ H x y v u Q I rx ry ⟨a,b,f1,f2,k,st1,st2,r1,r2,e,q⟩ =>
 (Z1Y I 8 X.A a b x y v u f1 f2 k f r1 r2 rx ry e).2.2 _ _ _ _ ⟨.bl (!k),H,I,rfl,q⟩
def oI(e:fEq fa fb env=some bb):∃x y,fa env=some x/\fb env=some y/\eqN 8 x y=some bb:=by
 unfold fEq at e;split at e
 .rename_i x y h1 h2;exact⟨x,y,h1,h2,e⟩
 .cases e
def bZ(f:X.A.units+8<=cLine)(h:QE X m1 rs1 a fa)(i:QE X m2 rs2 b fb):QT X (.Compare a [.Eq] [b] pos) (fEq fa fb) :=
 sW (Z0z f) h i (jJ _) (λenv x y K H v u f1 f2 Q bb e ea eb r1 r2 hK q=>by
  subst hK;obtain⟨l,j,h1,h2,h3⟩:=oI e;rw[ea]at h1;rw[eb]at h2;cases h1;cases h2;exact⟨x,y,f1,f2,bb,_,_,r1,r2,h3,q⟩) λenv bb e=>let ⟨x,y,h1,h2,_⟩:=oI e;⟨x,y,h1,h2⟩
def xC(f:X.A.units+8<=cLine)(i:QE X m1 rs1 a fa)(j:QE X m2 rs2 b fb):QT X (.Compare a [.NotEq] [b] pos) (kT (fEq fa fb)) :=
 sW (Z4M f) i j (jJ _) (λenv x y K H v u f1 f2 Q bb e ea eb r1 r2 hK q=>by
  subst hK;unfold kT at e;cases h:fEq fa fb env with
  |none=>rw[h]at e;cases e
  |some k =>
   rw[h]at e;cases e;obtain⟨n,l,h1,h2,h3⟩:=oI h;rw[ea]at h1;rw[eb]at h2;cases h1;cases h2;exact⟨x,y,f1,f2,k,_,_,r1,r2,h3,q⟩) λenv bb e=>by
  unfold kT at e;cases h:fEq fa fb env with
  |none=>rw[h]at e;cases e
  |some k=>obtain⟨x,y,h1,h2,_⟩:=oI h;exact⟨x,y,h1,h2⟩
def Z1C(f:X.A.units+8<=cLine)(i:QE X m1 rs1 a fa)(j:QE X m2 rs2 b fb):QE X m rs (.Compare a [.Eq] [b] pos) (kR (fEq fa fb)) :=
 .mk (vZ (Z0z f) i j (jJ _)) λσ H Q ⟨env,F,d,ok,e,q⟩=>by
  unfold kR at e;cases h:fEq fa fb env with
  |none=>rw[h]at e;cases e
  |some k =>
   rw[h]at e;cases e;obtain⟨x,y,h1,h2,h3⟩:=oI h;exact two ok h1 h2 λv u H' f1 f2 s r1 r2 _ _=>⟨x,y,f1,f2,k,_,_,r1,r2,h3,q _ _ _ s nS .nil⟩
def nD:bootBuiltins "isinstance" = some (.builtin "isinstance"):=by decide +kernel
def Y8:bootBuiltins "str" = some (.type "str"):=by decide +kernel
def dW:OpR X (binaryOp .Mult) (rI IntMulOk λi j=>.int (i*j)):=opI λ_ _ _ _ _ _ _ hc q=>PyProof.Rows.mul_int q hc
def dD(i j:Int):Prop:=0<j/\j.natAbs.log2<9000
def cE:OpR X (binaryOp .FloorDiv) (rI dD λi j=>.int (i/j)):=opI λi j _ _ _ _ _ hc q=>by
 have h1:(0:Int)<j:=hc.1;exact floordiv_int (by omega) (by rw[Int.fdiv_eq_ediv_of_nonneg i (by omega)];exact q) (.inl (PyProof.noPylong_of_log2 hc.2))
def vO(fa fb:En->Aa D):En->Aa D:=λenv=>match fa env,fb env with
 |some (.lst xs),some (.lst ys)=>if xs.length+ys.length<=1000 then some (.lst (xs++ys)) else none
 |_,_=>none
def xH(G:QE X true [] a fa)(i:QE X true [] b fb):QE X true [] (.BinOp a .Add b pos) (vO fa fb) :=
 .mk (L2.pe_op Z0A G i) λσ H Q ⟨env,F,d,ok,e,q⟩=>by
  unfold vO at e;split at e
  .rename_i xs ys h1 h2;split at e
   .rename_i I;cases e;refine⟨env,F,_,ok,h1,λv H1 f1 s1 r1 c1=>⟨env,F,_,ok.same s1,h2,λu H2 f2 s2 r2 c2=>?_⟩⟩;have B:=r1.same s2;obtain⟨C,vs,r,rfl,rfl,w,j⟩:=iX B;obtain⟨E,us,n,rfl,rfl,t,h⟩:=iX r2;refine⟨C,E,vs,us,rfl,rfl,w,t,lC (by rw[j.length,h.length];exact I),λp hp=>?_⟩;have l:=c1.2 rfl;have f:=c2.2 rfl;have J:(r++n).Nodup:=by
     refine Qar.mpr ⟨(QaA.mp l.1).2,(QaA.mp f.1).2,λx hx y hy z=>?_⟩;obtain⟨o,A⟩:=Rep.dom _ _ _ r1 x (Qaa _ hx);rw[z,f.2 y (Qaa _ hy)]at A;cases A
    have fr:∀b∈r++n,H b=none:=λb i=>(Qah.mp i).elim (λz=>l.2 b (Qaa _ z)) λz=>s1.free (f.2 b (Qaa _ z));exact q _ _ (p::(r++n)) ((s1.trans s2).trans (cJ hp)) (mR hp (j.append h)) (oK (s1.trans s2) hp (j.append h) ⟨λb i=>.inl (fr b i),λ_=>⟨J,fr⟩⟩)
   .cases e
  .cases e
def mO{α:Type}(nm:Str)(d:α):Ab Str->Ab α->Aa (Ab Str×Ab α)
 |[],[]=>some ([nm],[d])
 |n::ns,x::xs=>if n=nm then some (n::ns,d::xs) else(mO nm d ns xs).map λp=>(n::p.1,x::p.2)
 |_,_=>none
theorem U1{K:Frag}{H:Hp}{nm:Str}{d:D}{v:V}{fd:Ab Af}(l:Rep K true H d v fd):∀{ns i:Ab Str}{ds ds':Ab D}{vs:Ab V}{fp:Ab Af},Reps K true H ds vs fp->ns.length=vs.length->mO nm d ns ds=some (i,ds') ->
  ∃f fp2,jT nm v (ns.zip vs)=i.zip f/\i.length=f.length/\Reps K true H ds' f fp2/\(∀b∈fp2,b∈fp\/b∈fd)/\((fp++fd).Nodup->fp2.Nodup)/\i.length<=ns.length+1
 |[],i,[],ds',vs,fp,r,hl,e=>by
  simp only[mO]at e;cases e;simp only[Reps]at r;obtain⟨rfl,rfl⟩:=r;exact⟨[v],fd,rfl,rfl,by simp only[Reps];exact⟨v,[],fd,[],rfl,by simp,l,rfl,rfl⟩,λb hb=>.inr hb,λh=>by simpa using h,by simp⟩
 |n::ns,i,x::xs,ds',vs,fp,r,hl,e=>by
  simp only[Reps]at r;obtain⟨u,us,f1,t,rfl,rfl,E,o⟩:=r;simp only[mO]at e;by_cases j:n=nm
  .rw[if_pos j]at e;cases e;refine⟨v::us,fd++t,by simp[jT,j],by simpa using hl,by simp only[Reps];exact⟨v,us,fd,t,rfl,rfl,l,o⟩,λb hb=>?_,λh=>?_,by simp⟩
   .rcases Qah.mp hb with z|z
    .exact .inr z
    .exact .inl (Qae _ z)
   .rw[Qar]at h;obtain⟨h1,h2,h3⟩:=h;rw[Qar]at h1;exact Qar.mpr ⟨h2,h1.2.1,λa ha b hb z=>h3 b (Qae _ hb) a ha z.symm⟩
  .rw[if_neg j]at e;cases hq:mO nm d ns xs with
   |none=>rw[hq]at e;cases e
   |some p =>
    rw[hq]at e;cases e;obtain⟨f,fp2,B,w,A,q,C,F⟩:=U1 l o (by simpa using hl) hq;refine⟨u::f,f1++fp2,by simp[jT,j,B],by simp[w],by simp only[Reps];exact⟨u,f,f1,fp2,rfl,rfl,E,A⟩,λb hb=>?_,λh=>?_,by simp;omega⟩
    .rcases Qah.mp hb with z|z
     .exact .inl (Qan _ z)
     .exact(q b z).imp (λy=>Qae _ y) id
    .rw[List.append_assoc,Qar]at h;refine Qar.mpr ⟨h.1,C h.2.1,λa ha b hb z=>?_⟩;rcases q b hb with y|y
     .exact h.2.2 a ha b (Qan _ y) z
     .exact h.2.2 a ha b (Qae _ y) z
 |[],_,_::_,_,_,_,_,_,e=>by simp[mO]at e
 |_::_,_,[],_,_,_,_,_,e=>by simp[mO]at e
def spI(K:Frag)(C:Af)(n:Nat)(f:Ab D->Aa D):Sp:=λvs H Q _=>∃x dx H0 us ds d fp,vs=.ref x::us/\H0 x=none/\H0 dx=none/\dx≠x/\H=upd (upd H0 dx (.own x)) x (.ins C dx [])/\ds.length=n/\Reps K false H0 ds us fp/\f ds=some d /\
 ∀H' fp',Same H0 H'->Rep K true H' d (.ref x) fp'->(∀b∈fp',H0 b=none)->fp'.Nodup->Q .non H'
def Z1o{K:Frag}{C:Af}{n:Nat}{f:Ab D->Aa D}{vs:Ab V}{H:Hp}{Q:VK}{E:XK}(h:spI K C n f vs H Q E):vs.length=n+1:=by
 obtain⟨x,dx,H0,us,ds,d,fp,rfl,_,_,_,_,h1,h2,_⟩:=h;rw[Qaf,h2.length,h1]
section
variable {X:Cx}{m1:Bool}{rs1:Ab Nat}{e b c:Ag}{es:Ab Ag}{fs:En->Aa (Ab D)}{pos p:Pos}{x:Str}{C:Af}
def Z6T(M:Mk X.K C fA)(G:gT X.prog X.w X.K X.mg X.base CX0 k fA fd ps (spI X.K C n F'))(i:Room (k+1) X.A)(h:Gl X x)(o:X.mg x=some (.ref C))(a:Binds X.K fd ps [])(j:QA X m1 rs1 (e::es) fs)(l:∀env xs,fs env=some xs->xs.length=n)
  (f:nDb x:=by decide) (he:sEa e es X.env:=by rfl) (hpl:bTa pos es X.env:=by rfl) :
  QE X true [] (.Call (.Name x p) (e::es) [] pos) (λenv=>(fs env).bind F') :=
 .mk (L2.pe_make M G i h o a .nil U5 j f he hpl) λσ H Q ⟨env,F,d,ok,e,q⟩=>by
  cases h1:fs env with
  |none=>simp only[h1]at e;cases e
  |some xs =>
   simp only[h1,Qbc]at e;refine⟨env,F,xs,ok,h1,λvs H1 fp s r c x dx hx hdx hne=>⟨x,dx,H1,vs++[],xs,d,fp,rfl,hx,hdx,hne,rfl,l env xs h1,by rw[QaP];exact Reps.weak _ _ _ r,e,λH' fp' s' r' fr nd=>⟨rfl,q _ H' fp' (s.trans s') r' ⟨λb a=>.inl (s.free (fr b a)),λ_=>⟨nd,λb a=>s.free (fr b a)⟩⟩⟩⟩⟩
end
def Z3E{K:Frag}{P H:Hp}{σ:L2.St}{env:En}{F:Nat->Ab Af}{i:Nat}{N d':D}{a:Af}{v:V}{o o':HO}(E:Same P H)(M:σ.length=env.length)(h:EnvS K P H σ env F)(r:env[i]?=some (some (true,N)))
  (y:σ[i]?=some (some v)) (l:a∈F i) (O:H a=some o) (R:∀xs,o ≠ .tup xs) (Q:∀x u,o ≠ .frz x u) (p:∀st,Rep K st (upd H a o') d' v (F i)):SInv K P (upd H a o') σ (env.set i (some (true,d'))):=by
 have hi:i<env.length:=(Qac.mp r).1;obtain⟨J,B,S,q⟩:=h.own i _ r;have A:∀{fp:Ab Af},a∉fp->Kp fp H (upd H a o'):=λC=>Kp.upd O R Q C;refine⟨λb o e=>?_,by simp[M],F,λj o d e=>?_,λj d e=>?_⟩
 .have:b≠a:=λz=>by have:=B a l;rw[z,this]at e;cases e
  rw[bB this];exact E _ _ e
 .rw[cS hi]at e;by_cases f:j=i
  .subst f;rw[if_pos rfl]at e;cases e;exact⟨_,y,p false⟩
  .rw[if_neg f]at e;obtain⟨w,h1,h2⟩:=h.ok j o d e;exact⟨w,h1,Rep.keep _ _ _ (A (q j _ f e a l)) h2⟩
 .rw[cS hi]at e;by_cases f:j=i
  .subst f;rw[if_pos rfl]at e;cases e;refine⟨J,B,λw hw=>?_,λk s hk ek b hb=>?_⟩
   .rw[y]at hw;cases hw;exact p true
   .rw[cS hi,if_neg hk]at ek;exact q k s hk ek b hb
  .rw[if_neg f]at e;obtain⟨I,L,G,t⟩:=h.own j d e;refine⟨I,L,λw hw=>Rep.keep _ _ _ (A (q j _ f e a l)) (G w hw),λk s hk ek b hb=>?_⟩;rw[cS hi]at ek;by_cases n:k=i
   .subst n;exact t k _ hk r b hb
   .rw[if_neg n]at ek;exact t k s hk ek b hb
theorem Reps.modify{K:Frag}{H:Hp}:∀{ds:Ab D}{vs:Ab V}{fp:Ab Af}{k:Nat}{es:Ab D},Reps K true H ds vs fp->ds[k]?=some (.lst es)->flats es=true->∃a us,vs[k]?=some (.ref a)/\H a=some (.lst us)/\Reps K true H es us []/\a∈fp /\
  (fp.Nodup->∀us' es',Reps K true H es' us' []->Reps K true (upd H a (.lst us')) (ds.set k (.lst es')) vs fp)
 |[],vs,fp,k,es,r,e,hf=>by simp at e
 |d::ds,vs,fp,0,es,r,e,hf=>by
  simp at e;subst e;simp only[Reps]at r;obtain⟨v,us,f1,b,rfl,rfl,i,h⟩:=r;obtain⟨a,ws,g,rfl,rfl,n,j⟩:=iX i;obtain⟨t,w⟩:=Reps.flat _ _ _ hf j;subst t;refine⟨a,ws,rfl,n,j,by simp,λnd us' es' r'=>?_⟩;simp only[List.set_cons_zero,Reps];have f:a∉b:=λz=>by simp at nd;exact nd.1 z
  have o:∀{fp:Ab Af},a∉fp->Kp fp H (upd H a (.lst us')):=λp=>Kp.upd n (by intro xs z;cases z) (by intro x u z;cases z) p;refine⟨.ref a,us,[a],b,rfl,rfl,?_,Reps.keep _ _ _ (o f) h⟩;simp only[Rep];exact⟨a,us',[],rfl,Reps.keep _ _ _ (o (by simp)) r',.inl ⟨rfl,bJ⟩⟩
 |d::ds,vs,fp,k+1,es,r,e,hf=>by
  simp only[Reps]at r;obtain⟨v,us,f1,b,rfl,rfl,i,h⟩:=r;obtain⟨a,ws,h1,h2,h3,l,q⟩:=Reps.modify (k:=k) h (by simpa using e) hf;refine⟨a,ws,by simpa using h1,h2,h3,Qae _ l,λnd us' es' r'=>?_⟩;rw[Qar]at nd;simp only[List.set_cons_succ,Reps];have f:a∉f1:=λz=>nd.2.2 a z a l rfl;exact⟨v,us,f1,b,rfl,rfl,Rep.keep _ _ _ (Kp.upd h2 (by intro xs z;cases z) (by intro x u z;cases z) f) i,q nd.2.1 us' es' r'⟩
def Z0n{K:Frag}{st:Bool}{H:Hp}{a:Af}{vs:Ab V}{ds:Ab D}{fp:Ab Af}(b:H a=some (.lst vs))(r:Reps K true H ds vs fp):Rep K st H (.lst ds) (.ref a) (a::fp):=by
 cases st with
 |true=>simp only[Rep];exact⟨a,vs,fp,rfl,r,.inl ⟨rfl,b⟩⟩
 |false=>simp only[Rep];exact⟨a,vs,fp,rfl,Reps.weak _ _ _ r,.inl ⟨rfl,b⟩⟩
structure bL(P:Program)(w:World)(K:Frag)(mg:Str->Option Value)(base:Heap)(x:Str)(dds:List D)(k n:Nat)(F':List D->Option D):Prop where
 ex:∃fA fd ps dvs ds,gT P w K mg base CX0 k fA fd ps (spD K n F')/\mg x=some (.ref fA)/\keepIn K (.ref fA)=true/\Binds K fd ps ds/\Vals dvs ds/\∀H,Reps K false H dds dvs []
def aJ(F':Ab D->Aa D)(dds:Ab D)(fs:En->Aa (Ab D)):En->Aa D:=λenv=>(fs env).bind λxs=>F' (xs++dds)
def fB1(F':Ab D->Aa D)(fs:En->Aa (Ab D)):En->Aa D:=λenv=>(fs env).bind F'
def sB1(F':Ab D->Aa (Ab D))(fs:En->Aa (Ab D)):En->Aa (Ab D):=λenv=>(fs env).bind F'
inductive NArgs:Nat->(En->Option (List D))->Prop
 |nil:NArgs 0 aF
 |cons {n:Nat}{f:En->Option D}{fs:En->Option (List D)}:NArgs n fs->NArgs (n+1) (aA f fs)
def NArgs.len(h:NArgs n fs):∀env xs,fs env=some xs->xs.length=n:=by
 induction h with
 |nil=>intro env xs e;cases e;rfl
 |cons h ih =>
  intro env xs e;unfold aA at e;split at e
  .rename_i d ds h1 h2;cases e;rw[Qaf,ih env _ h2]
  .cases e
def Z90(c:bL X.prog X.w X.K X.mg X.base x dds k n F')(i:Room k X.A)(f:NArgs na fs)(j:na+dds.length=n)(o:QA X m1 rs1 (e::es) fs)(l:Gl X x:=by rfl)
  (a:nDb x:=by decide) (he:sEa e es X.env:=by rfl) (hpl:bTa pos es X.env:=by rfl) :
  QE X true [] (.Call (.Name x p) (e::es) [] pos) (aJ F' dds fs):=by
 obtain⟨u,fd,ps,dvs,ds,G,r,t,q,hd,b⟩:=c.ex;exact Z6Y G i l r t q hd b o (λenv xs h=>by rw[f.len env xs h];exact j) a he hpl
structure F4(P:Program)(w:World)(K:Frag)(mg:Str->Option Value)(base:Heap)(x:Str)(C:Addr)(k n:Nat)(F':List D->Option D):Prop where
 ex:∃fA fd ps,Mk K C fA/\gT P w K mg base CX0 k fA fd ps (spI K C n F')/\mg x=some (.ref C)/\Binds K fd ps []
def Z8h(c:F4 X.prog X.w X.K X.mg X.base x C k n F')(i:Room (k+1) X.A)(a:NArgs n fs)(j:QA X m1 rs1 (e::es) fs)(f:Gl X x:=by rfl)
  (b:nDb x:=by decide) (he:sEa e es X.env:=by rfl) (hpl:bTa pos es X.env:=by rfl) :
  QE X true [] (.Call (.Name x p) (e::es) [] pos) (fB1 F' fs):=by
 obtain⟨q,fd,ps,M,G,o,l⟩:=c.ex;exact Z6T M G i f o l j (λenv xs h=>a.len env xs h) b he hpl
def bI(r:Room k A):A.units+8<=cLine:=by have:=r.un;omega
def gX(i:Nat)(he:QE X true [] e f)(o:X.N[i]?=some x:=by rfl)(q:Vis X.env.scope x:=by first|exact Or.inl rfl|exact Or.inr (Or.inl rfl)|exact Or.inr (Or.inr rfl))(hd:nDb x:=by decide)(l:(x==("__classdict__" : Str))=false:=by decide)
  (j:attributeBase (.Name x p) "append" X.env (eval (.Name x p) X.env)=eval (.Name x p) X.env:=by rfl)
  (n:((backTo cpos (starEach [e] X.env)).all (fun x=>!x.1) && (backToKw cpos (keywordEach [] X.env)).all (fun x=>x.1.isSome)
   && decide (([e]:Ab Ag).length+([]:Ab Keyword).length+(if ([]:Ab Keyword).isEmpty then 0 else 1)<30))=true:=by rfl)
  (h:(apos.endLine==cpos.line)=true:=by rfl) (a:starEach [e] X.env=(false,eval e X.env)::starEach [] X.env:=by rfl) (b:(backTo cpos (starEach [] X.env)).any (·.1)=false:=by rfl)
  (hs:swapsWith (.Call (.Attribute (.Name x p) "append" apos) [e] [] cpos) none pos.line X.env=pure false:=by rfl) :
  QS X (.Expr (.Call (.Attribute (.Name x p) "append" apos) [e] [] cpos) pos) (iA i f) :=
 Z2D o q he hd l a (hpe:=B6 Qbp PySem.F.slot_list_append PySem.F.type_list_append pA (kH o q hd l) (pa_cons he pa_nil a) j n h a b) (hs:=hs)
def Z1z(i:Nat)(h:QE X m2 rs2 k fk)(he:QE X m1 rs1 e f)(b:X.N[i]?=some x:=by rfl)(j:Vis X.env.scope x:=by first|exact Or.inl rfl|exact Or.inr (Or.inl rfl)|exact Or.inr (Or.inr rfl))(hd:nDb x:=by decide)(a:(x==("__classdict__" : Str))=false:=by decide)
  (l:∀ v,assign (.Subscript (.Name x p) k spos) X.env v=(do
   let ov <- holding [v] (eval (.Name x p) X.env)
   let iv <- holding [v,ov] (eval k X.env)
   standAt spos
   holding [v,ov,iv] (setItem ov iv v)
   release [v,ov,iv] []):=by intro _;rfl)
  (hs:swapsWithSole [.Subscript (.Name x p) k spos] e pos.line X.env=pure false:=by rfl) (hw:swappedStores [.Subscript (.Name x p) k spos] e X.env=pure none:=by rfl) :
  QS X (.Assign [.Subscript (.Name x p) k spos] e pos) (T5 i fk f) :=
 Z8V b j he h hd a (hps:=Z4B he (Z98 (kH b j hd a) h Z40 l) hs hw)
def Z6L(he:QE X m rs e f)(a:QG X tg t)(hs:swapsWithSole [tg] e pos.line X.env=pure false:=by rfl)(hw:swappedStores [tg] e X.env=pure none:=by rfl)(h1:(assignEach [tg] X.env).map (·.2)=[assign tg X.env]:=by rfl):QS X (.Assign [tg] e pos) (Z4m rs t f) :=
 Z8T he a hs hw (hps:=Z4B he a hs hw h1)
def kC(i:Nat):En->Res:=λenv=>match env[i]? with|some (some (true,d))=>.ret d|_=>.bad
def tE:QE X m rs (.UnaryOp .USub (.Constant (.int i) k pp) pos) (fC (.int (-i))) :=
 .mk (pe_un Z02 L2.pe_int) λσ H Q ⟨env,F,d,ok,e,q⟩=>by cases e;exact⟨i,rfl,q _ _ _ (Same.refl H) eR .nil⟩
def FunD.raw{P:Aj}{w:Ak}{K:Frag}{mg:Str->Aa Ad}{base:Ah}{x qual:Str}{st:Stmt}{f:Af}{fd:FuncData}{N ps:Ab Str}{k:Nat}{sp:Sp}(F:FunD K x qual st f fd)(S:eT N ps (aR st))(len:∀vs H Q E,sp vs H Q E->vs.length=ps.length)
  (b:∀ (a:Ad) (A:Ai) (outer:Ab Env) (s:Ac) (H:Hp) (vs:Ab V) (Q:VK) (E:XK),Room k (A.deeper (envOfC qual (aR st) s.heap.objs.size f a))->sp vs H Q E ->
   ∃t,PSs (uH CX0 P w K mg base N qual (aR st) f a A outer s H E).nox (cB st) t/\t { nx:=λ_ H'=>Q .non H',rt:=Q } (L2.start N vs) H):gT P w K mg base CX0 (k+1) f fd ps sp:=by
 obtain⟨o,u,p,kV,n,r,an,a,ct,l,rfl,j,i⟩:=F.ex;refine X4 j i S len λA outer s H vs Q E hr hsp=>?_;obtain⟨t,h,q⟩:=b a A outer s H vs Q E hr hsp;exact⟨t,h.nox,q⟩
def Zam{K:Frag}{C x dx:Af}{H0:Hp}{σ:L2.St}{us:Ab V}{ds:Ab D}{fp:Ab Af}{i j l:Str}{f1 f2 f3:En->Aa D}{env:En}{Q U N:D}{E:uL}{F:Nat->Ab Af}
  (O:H0 x=none) (I:H0 dx=none) (B:dx≠x) (ok:EnvOk K H0 σ env F) (M:σ[0]?=some (some (.ref x))) (e1:f1 env=some Q) (e2:f2 env=some U) (e3:f3 env=some N)
  (W:Cls K C) (a1:NoAttr K C i) (a2:NoAttr K C j) (a3:NoAttr K C l) (k12:¬i=j) (Z:¬i=l) (k23:¬j=l)
  (q:∀H' fp',Same H0 H'->Rep K true H' (.obj C [i,j,l] [Q,U,N]) (.ref x) fp'->(∀b∈fp',H0 b=none)->fp'.Nodup->E.nx σ H') :
  Z8z (Z4d K (zE 0) (tD K true [] f1) i) (Z8z (Z4d K (zE 0) (tD K true [] f2) j) (Z4d K (zE 0) (tD K true [] f3) l)) E σ (upd (upd H0 dx (.own x)) x (.ins C dx [])):=by
 have hx':upd H0 dx (.own x) x=none:=by rw[bB (Ne.symm B)];exact O
 have s0:Same H0 (upd (upd H0 dx (.own x)) x (.ins C dx [])):=(cJ I).trans (cJ hx');have H:∀{p T:Hp}{o:HO},Same H0 p->Same p T->Same H0 (upd T x o):=λ{p T o} sa sb b u e=>by
  rw[bB (cG e O)];exact sb _ _ (sa _ _ e)
 have p1:∀y1:V,jT i y1 []=[(i,y1)]:=λ_=>rfl;have p2:∀y1 y2:V,jT j y2 [(i,y1)]=[(i,y1),(j,y2)]:=λy1 y2=>by simp[jT,k12]
 have p3:∀y1 y2 y3:V,jT l y3 [(i,y1),(j,y2)]=[(i,y1),(j,y2),(l,y3)]:=λy1 y2 y3=>by simp[jT,Z,k23]
 refine⟨env,F,Q,ok.same s0,e1,λy1 H1 g1 s1 r1 c1=>⟨.ref x,M,x,C,dx,[],rfl,s1 _ _ bJ,W,a1,by show 0<1000;decide,?_⟩⟩;rw[p1];have S1:Same H0 (upd H1 x (.ins C dx [(i,y1)])):=H s0 s1;refine⟨env,F,U,ok.same S1,e2,λy2 H2 g2 s2 r2 c2=>⟨.ref x,M,x,C,dx,[(i,y1)],rfl,s2 _ _ bJ,W,a2,by show 1<1000;decide,?_⟩⟩;rw[p2];have S:Same H0 (upd H2 x (.ins C dx [(i,y1),(j,y2)])):=H S1 s2;refine⟨env,F,N,ok.same S,e3,λy3 H3 g3 s3 r3 c3=>⟨.ref x,M,x,C,dx,[(i,y1),(j,y2)],rfl,s3 _ _ bJ,W,a3,by show 2<1000;decide,?_⟩⟩;rw[p3];have S3:Same H0 (upd H3 x (.ins C dx [(i,y1),(j,y2),(l,y3)])):=H S s3;have x1:H1 x=some (.ins C dx []):=s1 _ _ bJ;have x2:H2 x=some (.ins C dx [(i,y1)]):=s2 _ _ bJ;have P:H3 x=some (.ins C dx [(i,y1),(j,y2)]):=s3 _ _ bJ;have y:=c1.2 rfl;have t:=c2.2 rfl;have r:=c3.2 rfl;have w:x∉g1:=λz=>by have:=y.2 x z;rw[bJ]at this;cases this
 have G:x∉g2:=λz=>by have:=t.2 x z;rw[bJ]at this;cases this
 have L:x∉g3:=λz=>by have:=r.2 x z;rw[bJ]at this;cases this
 have A:∀{p:Hp}{o o':HO}{fp:Ab Af},p x=some o->(∀xs,o ≠ .tup xs)->(∀a b,o ≠ .frz a b)->x∉fp->Kp fp p (upd p x o'):=λh m f n=>Kp.upd h m f n;have R1:=Rep.keep _ _ _ (A (o':=.ins C dx [(i,y1)]) x1 (by intro xs z;cases z) (by intro a b z;cases z) w) r1;have J:=Rep.keep _ _ _ (A (o':=.ins C dx [(i,y1),(j,y2)]) x2 (by intro xs z;cases z) (by intro a b z;cases z) w) (R1.same s2);have R:=Rep.keep _ _ _ (A (o':=.ins C dx [(i,y1),(j,y2),(l,y3)]) P (by intro xs z;cases z) (by intro a b z;cases z) w) (J.same s3);have R2:=Rep.keep _ _ _ (A (o':=.ins C dx [(i,y1),(j,y2)]) x2 (by intro xs z;cases z) (by intro a b z;cases z) G) r2;have R2':=Rep.keep _ _ _ (A (o':=.ins C dx [(i,y1),(j,y2),(l,y3)]) P (by intro xs z;cases z) (by intro a b z;cases z) G) (R2.same s3);have R3:=Rep.keep _ _ _ (A (o':=.ins C dx [(i,y1),(j,y2),(l,y3)]) P (by intro xs z;cases z) (by intro a b z;cases z) L) r3;have dd:∀{p:Hp}{o:HO},p dx=some (.own x)->upd p x o dx=some (.own x):=λh=>by rw[bB B];exact h
 have dz:upd (upd H0 dx (.own x)) x (.ins C dx []) dx=some (.own x):=dd bJ;have D1:=s1 _ _ dz;have D2:=s2 _ _ (dd (o:=.ins C dx [(i,y1)]) D1);have D3:=s3 _ _ (dd (o:=.ins C dx [(i,y1),(j,y2)]) D2);have Y:dx∉g1:=λz=>by have:=y.2 dx z;rw[dz]at this;cases this
 have nd2:dx∉g2:=λz=>by have:=t.2 dx z;rw[dd D1]at this;cases this
 have nd3:dx∉g3:=λz=>by have:=r.2 dx z;rw[dd D2]at this;cases this
 have d12:∀a∈g1,∀b∈g2,a≠b:=λa ha b hb z=>by
  obtain⟨o,v⟩:=Rep.dom _ _ _ R1 a ha;rw[z,t.2 b hb]at v;cases v
 have X:∀a∈g1,∀b∈g3,a≠b:=λa ha b hb z=>by
  obtain⟨o,v⟩:=Rep.dom _ _ _ J a ha;rw[z,r.2 b hb]at v;cases v
 have a0:∀a∈g2,∀b∈g3,a≠b:=λa ha b hb z=>by
  obtain⟨o,v⟩:=Rep.dom _ _ _ R2 a ha;rw[z,r.2 b hb]at v;cases v
 refine q _ (x::dx::(g1++(g2++(g3++[])))) S3 ?_ (λb hb=>?_) ?_
 .simp only[Rep,Reps];exact⟨x,dx,[y1,y2,y3],g1++(g2++(g3++[])),rfl,rfl,bJ,dd D3,rfl,y1,[y2,y3],g1,_,rfl,rfl,R,y2,[y3],g2,_,rfl,rfl,R2',y3,[],g3,[],rfl,rfl,R3,rfl,rfl⟩
 .rcases Qad.mp hb with z|z
  .rw[z];exact O
  .rcases Qad.mp z with z|z
   .rw[z];exact I
   rw[QaP]at z;rcases Qah.mp z with z|z
   .exact s0.free (y.2 b z)
   .rcases Qah.mp z with z|z
    .exact S1.free (t.2 b z)
    .exact S.free (r.2 b z)
 .rw[QaP];refine QaA.mpr ⟨λz=>?_,QaA.mpr ⟨λz=>?_,Qar.mpr ⟨y.1,Qar.mpr ⟨t.1,r.1,a0⟩,λa ha b hb=>?_⟩⟩⟩
  .rcases Qad.mp z with z|z
   .exact B z.symm
   rcases Qah.mp z with z|z
   .exact w z
   .rcases Qah.mp z with z|z
    .exact G z
    .exact L z
  .rcases Qah.mp z with z|z
   .exact Y z
   .rcases Qah.mp z with z|z
    .exact nd2 z
    .exact nd3 z
  .rcases Qah.mp hb with z|z
   .exact d12 a ha b z
   .exact X a ha b z
end PD
namespace Att
open PySem PySem.W PySem.Calls PyProof.Rows
theorem nI:∀{ns:Ab Int}{i:Int},i∈ns->WData.weight (.int i)<=WData.weightAll (ns.map WData.int)
 |[],i,h=>nomatch h
 |n::ns,i,h=>by
  simp only[Qat,WData.weightAll];rcases Qad.mp h with z|z
  .subst z;omega
  .have:=nI z;omega
def Z2{ns:Ab Int}(h:WData.layableAll [WData.list (ns.map WData.int)]=true):∀i∈ns,Builtin.Int.intBits i<=1048576:=λi hi=>by
 simp only[WData.layableAll,List.all_cons,List.all_nil,Bool.and_true,WData.layable,Qam,Rk,WData.weight]at h;have h1:=nI hi;have h2:WData.weight (.int i)=Builtin.Int.intBits i:=by simp only[WData.weight,Builtin.Int.intBits]
 rw[h2]at h1;have h3:WData.weightAll (List.map WData.int ns)<=2^20:=of_decide_eq_true h.2;exact QaE h1 h3
def attach_callB{l:OpenLaw}
  (F:l.most=some n) (C:d.params.defaults=[])
  (call:∀ (w:Ak) (s₀ s₁:Ac) (mg v:Str->Aa Ad) (fa:Af) (o:Obj) (x cd b:Ad) (a:Af) (vs:Ab Ad) (ns:Ab Int),
   (∀i∈ns,Builtin.Int.intBits i<=1048576)->Ground q loose [] XP w s₀ mg v s₁.heap->YP w s₁.heap ->
   s₁.heap.get? fa=some o->o.data=.func (docDef d.name d.params d.body d.scope x cd b)->s₁.heap.CodeRec cd d.name->mg d.name=some (.ref fa) ->
   s₁.heap.get? a=some { cls:=.type "list",data:=.seq vs.toArray }->IntsAre vs ns->ns.length<=n->s₁.gens = #[] ->
   codeAny (model l.prog w) callerA (.call (.ref fa) ⟨[.ref a],[]⟩) (λr s'=>r=.ok (.ret (.bool true))/\OldK s₁.heap s'.heap/\s'.os=s₁.os/\AllBare s'.gens) s₁) :
  WalkO q loose XP YP l.row.toRowW d [] (λf vs=>PySem.call f vs):=by
 intro w s₀ s₁ mg v G Y fa o x cd b H kV K hd y E B I args L O t u M A N;obtain rfl:H=.none:=Dflts.none E C;obtain rfl:kV=.none:=Dflts.noKw E;obtain⟨a,vs,ns,rfl,rfl,j,h,p⟩:=Z2k F t A;refine enter_call (codeAny_mono (call w s₀ s₁ mg v fa o x cd b a vs ns (Z2 u) G Y K (fd_plain hd) y B j h p I) λr s' hq=>?_);obtain⟨rfl,h2,h3,J⟩:=hq;exact⟨.inl ⟨.bool true,.bool true,[],rfl,λ_=>rfl,.bool true,Z2H l _,λ_=>⟨List.Pairwise.nil,λ_ hm=>(nomatch hm)⟩⟩,h2,h3,J⟩
end Att
namespace PD
open PySem PySem.Spec PyProof.Rows L2
theorem sU{K:Frag}{st:Bool}:∀(ns:Ab Int),Reps K st H (ns.map D.int) (ns.map V.int) []
 |[]=>by simp only[QaV,Reps];exact⟨trivial,trivial⟩
 |n::ns=>by simp only[Qat,Reps];exact⟨.int n,ns.map V.int,[],[],rfl,rfl,eR,sU ns⟩
def walkD{l:PySem.W.OpenLaw}{K:Params->Frag}
  (C:l.most=some n) (y:n<=sizeLine) (p:d.params.defaults=[]) (A:Room k callerA)
  (B:∀(w:Ak) (h:Ah),YP w h->(K w.params).In h)
  (F:∀ (w:Ak) (mg:Str->Aa Ad) (fa:Af) (h:Ah),(K w.params).In h->h.Ns mainGlobals mg->mg d.name=some (.ref fa) ->
   ∃(fd:FuncData) (m:Ab D->Aa D),(∀(s:Ac) (u:Ad),BindsTo s fd ⟨[u],[]⟩ [(x,u)])/\(∀ns:Ab Int,ns.length<=n->(∀i∈ns,Builtin.Int.intBits i<=1048576)->m [.lst (ns.map D.int)]=some (.bl true)) /\
    ∀base:Ah,(K w.params).In base->base.Ns mainGlobals mg->gT l.prog w (K w.params) mg base CX0 k fa fd [x] (spD (K w.params) 1 m)) :
  PySem.W.WalkO q loose XP YP l.row.toRowW d [] (λf vs=>PySem.call f vs):=by
 refine Att.attach_callB C p λw s₀ s₁ mg mb fa o pm cd doc a vs ns hbits G Y ho hd hcd hmg hobj hints hlen hg=>?_;have t:=B w _ Y;obtain⟨fd,m,E,I,hF⟩:=F w mg fa _ t G.T.g hmg;refine Z55 t G.T.g G.T.b G.T.builtins G.T.nolimit hg hobj hints (QaE hlen y) A hF E (λH hO hS=>?_) λH e s' z=>z;have j:∃fp,Reps (K w.params) false H [.lst (ns.map D.int)] [.ref a] fp:=by
  rcases Z3V hS with z|z
  .refine⟨[a],?_⟩;simp only[Reps,Rep];exact⟨.ref a,[],[a],[],rfl,rfl,⟨a,_,[],rfl,sU ns,.inl ⟨rfl,z⟩⟩,rfl,rfl⟩
  .refine⟨[],?_⟩;simp only[Reps,Rep];exact⟨.ref a,[],[],[],rfl,rfl,⟨a,_,[],rfl,sU ns,.inr ⟨trivial,rfl,z⟩⟩,rfl,rfl⟩
 obtain⟨fp,j⟩:=j;exact⟨_,_,fp,rfl,j,I ns hlen hbits,λv H' fp' _ r _ _=>fI r⟩
def jO(i j:Int):Prop:=0<=j/\(Builtin.Int.intBits i:Int)+j<=2^27
def dU:OpR X (binaryOp .LShift) (rI jO λi j=>.int (i*2^j.toNat)):=opI λ_ _ _ _ _ _ _ hc q=>PyProof.Rows.lshift_int hc.1 hc.2 q
def O4(h:Builtin.Int.intBits i<=n)(a:0<=j)(h1:(n:Int)+j<=100000000):jO i j:=by
 have e:(2:Int)^27=134217728:=by decide
 refine⟨a,?_⟩;rw[e];omega
def mF(a:0<=j)(h1:j<=1000000):jO 1 j:=O4 (n:=64) (PySem.intBits_le_64 (by decide) (by decide)) a (by omega)
def qp(h:QE X true [] e f):QE X true [] e f:=h
open PySem PySem.Spec PyProof.Rows L2 PySem.SeqAt
section
variable {X:Cx}{pins:Ab (Af×Obj)}{σ:L2.St}{H:Hp}{s:Ac}
def Z4S(h1:s.heap.IsTuple p xs)(h2:s.heap.IsList p ys):False:=by
 obtain⟨o,h,f,_⟩:=h1;obtain⟨o',b,a,_⟩:=h2;rw[h]at b;cases b;rw[f]at a;exact absurd a (by simp)
def P6:D->Prop
 | .obj _ _ _=>False
 | .dk _ _=>False
 | .dt _ _=>False
 | .exc _=>False
 | .fn _ _ _=>False
 |_=>True
def Z7S:eqN n (.obj C ns xs) x=none:=by cases n<;>cases x<;>simp only[eqN]
def Z9x:eqN n (.dk ns xs) x=none:=by cases n<;>cases x<;>simp only[eqN]
def Z9w:eqN n (.dt ns xs) x=none:=by cases n<;>cases x<;>simp only[eqN]
def Z7T:eqN n (.exc C) x=none:=by cases n<;>cases x<;>simp only[eqN]
def Z9v:eqN n (.fn a vs ds) x=none:=by cases n<;>cases x<;>simp only[eqN]
def B5(e:eqN n a x=some k):P6 a:=by
 cases a with
 |obj C ns xs=>rw[Z7S]at e;cases e
 |dk ns xs=>rw[Z9x]at e;cases e
 |dt ns xs=>rw[Z9w]at e;cases e
 |exc C=>rw[Z7T]at e;cases e
 |fn _ _ _=>rw[Z9v]at e;cases e
 |_=>trivial
def Z4j(I:Inv X pins σ H s){a b:D}{v:V}{f1 M:Ab Af}(n:Rep X.K st1 H a v f1)(f:Rep X.K st2 H b v M)(t:P6 a)(l:P6 b) :
  a=b\/(∃xs ys vs g1 g2,a=.tup xs/\b=.tup ys/\Reps X.K st1 H xs vs g1/\Reps X.K st2 H ys vs g2)\/(∃xs ys vs g1 g2,a=.lst xs/\b=.lst ys/\Reps X.K st1 H xs vs g1/\Reps X.K st2 H ys vs g2):=by
 have tl:∀{xs ys:Ab D}{st B:Bool}{v:V}{g g':Ab Af},Rep X.K st H (.tup xs) v g->Rep X.K B H (.lst ys) v g'->False:=by
  intro xs ys st B v g g' J L;simp only[Rep]at J;obtain⟨p,vs,rfl,hs,_⟩:=J;obtain⟨P,us,_,e,o,_,_⟩:=cC L;cases e;obtain⟨_,_,pl,_⟩:=I.tuple hs;obtain⟨_,_,G,_⟩:=I.list o;exact Z4S pl G.isList
 have F:∀{d:D}{st:Bool}{v:V}{g:Ab Af},Rep X.K st H d v g->P6 d->(∀p,v ≠ .ref p)->(d=.non/\v=.non)\/(∃b,d=.bl b/\v=.bl b)\/(∃i,d=.int i/\v=.int i)\/(∃z,d=.str z/\v=.str z):=by
  intro d st v g r x w;cases d with
  |non=>exact .inl ⟨rfl,fF r⟩
  |bl b=>exact .inr (.inl ⟨b,rfl,fI r⟩)
  |int b=>exact .inr (.inr (.inl ⟨b,rfl,bP r⟩))
  |str b=>exact .inr (.inr (.inr ⟨b,rfl,cP r⟩))
  |tup xs=>simp only[Rep]at r;obtain⟨p,_,e,_⟩:=r;exact absurd e (w p)
  |lst xs=>obtain⟨p,_,_,e,_⟩:=cC r;exact absurd e (w p)
  |obj _ _ _=>exact x.elim
  |dk _ _=>exact x.elim
  |dt _ _=>exact x.elim
  |exc _=>exact x.elim
  |fn _ _ _=>exact x.elim
 by_cases w:∃p,v=.ref p
 .obtain⟨p,rfl⟩:=w;cases a with
  |non=>have:=fF n;cases this
  |bl b=>have:=fI n;cases this
  |int b=>have:=bP n;cases this
  |str b=>have:=cP n;cases this
  |obj _ _ _=>exact t.elim
  |dk _ _=>exact t.elim
  |dt _ _=>exact t.elim
  |exc _=>exact t.elim
  |fn _ _ _=>exact t.elim
  |tup xs =>
   cases b with
   |non=>have:=fF f;cases this
   |bl b=>have:=fI f;cases this
   |int b=>have:=bP f;cases this
   |str b=>have:=cP f;cases this
   |obj _ _ _=>exact l.elim
   |dk _ _=>exact l.elim
   |dt _ _=>exact l.elim
   |exc _=>exact l.elim
   |fn _ _ _=>exact l.elim
   |lst ys=>exact(tl n f).elim
   |tup ys =>
    simp only[Rep]at n f;obtain⟨q,vs,e,hs,E⟩:=n;obtain⟨N,us,C,o,u⟩:=f;cases e;cases C;obtain rfl:=I.tuple_inj hs o;exact .inr (.inl ⟨xs,ys,_,_,_,rfl,rfl,E,u⟩)
  |lst xs =>
   cases b with
   |non=>have:=fF f;cases this
   |bl b=>have:=fI f;cases this
   |int b=>have:=bP f;cases this
   |str b=>have:=cP f;cases this
   |obj _ _ _=>exact l.elim
   |dk _ _=>exact l.elim
   |dt _ _=>exact l.elim
   |exc _=>exact l.elim
   |fn _ _ _=>exact l.elim
   |tup ys=>exact(tl f n).elim
   |lst ys =>
    obtain⟨q,vs,_,e,hs,E,_⟩:=cC n;obtain⟨N,us,_,C,o,u,_⟩:=cC f;cases e;cases C;obtain rfl:=I.list_inj hs o;exact .inr (.inr ⟨xs,ys,_,_,_,rfl,rfl,E,u⟩)
 .have A:∀p,v ≠ .ref p:=λp e=>w ⟨p,e⟩;left;rcases F n t A with⟨rfl,h⟩|⟨b',rfl,h⟩|⟨i,rfl,h⟩|⟨z,rfl,h⟩<;>rcases F f l A with⟨rfl,k⟩|⟨O,rfl,k⟩|⟨j,rfl,k⟩|⟨y,rfl,k⟩<;>first|rfl|(have z:=h.symm.trans k;cases z;rfl)|(have z:=h.symm.trans k;cases z;done)
def X9(I:Inv X pins σ H s):∀(n:Nat) (a b x:D) (v:V) (f1 o:Ab Af) (k l:Bool),Rep X.K st1 H a v f1->Rep X.K st2 H b v o->eqN n a x=some k->eqN n b x=some l->k=l:=by
 intro n
 induction n with
 |zero=>intro a b x v f1 o k l _ _ e;simp[eqN]at e
 |succ n ih =>
  have p:∀(xs ys h:Ab D) (vs:Ab V) (f1 o:Ab Af) (k l:Bool),Reps X.K st1 H xs vs f1->Reps X.K st2 H ys vs o->eqL (eqN n) xs h=some k->eqL (eqN n) ys h=some l->k=l:=by
   intro xs
   induction xs with
   |nil =>
    intro ys h vs f1 o k l i j e f;have l1:=i.length;have l2:=j.length;have:ys=[]:=by rw[<- List.length_eq_zero_iff,<- l2,l1];rfl
    subst this;rw[e]at f;cases f;rfl
   |cons x xs ihx =>
    intro ys h vs f1 o k l i j e f;cases ys with
    |nil =>
     have l1:=i.length;have l2:=j.length;rw[l1]at l2;simp at l2
    |cons y ys =>
     cases h with
     |nil=>simp only[eqL]at e f;cases e;cases f;rfl
     |cons z h =>
      simp only[Reps]at i j;obtain⟨v,us,u,t,rfl,_,E,F⟩:=i;obtain⟨N,M,Q,P,B,_,C,A⟩:=j;cases B;simp only[eqL]at e f;split at e
      .rename_i c d h1 h2;cases e;split at f
       .rename_i c' d' r q;cases f;rw[ih _ _ _ _ _ _ _ _ E C h1 r,ihx _ _ _ _ _ _ _ F A h2 q]
       .cases f
      .cases e
  intro a b x v f1 o k l w J e f;have L:=B5 e;have G:=B5 f;rcases Z4j I w J L G with rfl|⟨xs,ys,vs,u,t,rfl,rfl,i,j⟩|⟨xs,ys,vs,u,t,rfl,rfl,i,j⟩
  .rw[e]at f;cases f;rfl
  .have l1:=i.length;have l2:=j.length;cases x with
   |tup h =>
    simp only[eqN]at e f;cases h1:eqL (eqN n) xs h with
    |none=>rw[h1]at e;cases e
    |some c =>
     cases h2:eqL (eqN n) ys h with
     |none=>rw[h2]at f;cases f
     |some c' =>
      rw[h1]at e;rw[h2]at f;cases e;cases f;rw[p _ _ _ _ _ _ _ _ i j h1 h2,<- l1,<- l2]
   |non=>simp only[eqN]at e f;cases e;cases f;rfl
   |_=>simp only[eqN]at e;cases e
  .have l1:=i.length;have l2:=j.length;cases x with
   |lst h =>
    simp only[eqN]at e f;by_cases O:vs.length=h.length
    .rw[if_pos (by omega)]at e f;exact p _ _ _ _ _ _ _ _ i j e f
    .rw[if_neg (by omega)]at e f;cases e;cases f;rfl
   |non=>simp only[eqN]at e f;cases e;cases f;rfl
   |_=>simp only[eqN]at e;cases e
end
def inD(x:D):Ab D->Aa Bool
 |[]=>some false
 |y::ys=>match eqN 8 y x,inD x ys with
  |some a,some b=>some (a||b)
  |_,_=>none
theorem N0:∀{ys:Ab D}{k:Bool},inD x ys=some k->(∀(i:Nat) (y:D),ys[i]?=some y->∃c,eqN 8 y x=some c)/\(k=true↔∃(i:Nat) (y:D),ys[i]?=some y/\eqN 8 y x=some true)
 |[],k,h=>by simp only[inD]at h;cases h;exact⟨λi y e=>by simp at e,by simp⟩
 |y::ys,k,h=>by
  simp only[inD]at h;split at h
  .rename_i a b h1 h2;cases h;obtain⟨n,l⟩:=N0 h2;refine⟨λi z e=>?_,?_⟩
   .cases i with
    |zero=>simp at e;subst e;exact⟨a,h1⟩
    |succ i=>exact n i z (by simpa using e)
   .rw[Bool.or_eq_true,l];constructor
    .rintro (z|⟨i,z,f,j⟩)
     .exact⟨0,y,rfl,by rw[h1,z]⟩
     .exact⟨i+1,z,by simpa using f,j⟩
    .rintro⟨i,z,f,j⟩;cases i with
     |zero=>simp at f;subst f;rw[h1]at j;cases j;exact .inl rfl
     |succ i=>exact .inr ⟨i,z,by simpa using f,j⟩
  .cases h
def Z5d(I:Inv X pins σ H s){A:Ai}{x:D}{ys:Ab D}{v:V}{vs:Ab V}{u:Ad}{its:Ab Ad}{f g:Ab Af}{k:Bool}(O:A.units+8<=cLine)(Q:Rep X.K st1 H x v f)(S:RelV v u)(r:Reps X.K st2 H ys vs g)(w:Vals vs its)(h:inD x ys=some k) :
  ∃e:Ad->Bool,(∀y∈its,EqAt A s y u (e y))/\its.any e=k:=by
 obtain⟨h1,h2⟩:=N0 h
 classical
 have p:∀(i:Nat) (y:Ad),its[i]?=some y->∃(z:D) (n:V) (fz:Ab Af),ys[i]?=some z/\Rep X.K st2 H z n fz/\RelV n y:=by
  intro i y e;have hi:i<its.length:=(Qac.mp e).1;have l1:=r.length;have l2:=w.length;have o:i<ys.length:=by omega
  obtain⟨n,fz,t,a,_⟩:=r.get (Qaj o);obtain⟨U,b,q⟩:=w.get t;rw[e]at b;cases b;exact⟨_,n,fz,Qaj o,a,q⟩
 let e:Ad->Bool:=λy=>decide (∃(i:Nat) (z:D),its[i]?=some y/\ys[i]?=some z/\eqN 8 z x=some true)
 have C:∀(i:Nat) (y:Ad) (z:D) (c:Bool),its[i]?=some y->ys[i]?=some z->eqN 8 z x=some c->e y=c:=by
  intro i y z c t a l;by_cases B:∃(i:Nat) (z:D),its[i]?=some y/\ys[i]?=some z/\eqN 8 z x=some true
  .have:e y=true:=Rj B;rw[this];obtain⟨j,Z,M,J,R⟩:=B;obtain⟨Y,P,g1,b,q,E⟩:=p i y t;obtain⟨W,N,g2,G,T,L⟩:=p j y M;rw[a]at b;cases b;rw[J]at G;cases G;have F:P=N:=RelV.inj E L;subst F;exact(X9 I 8 _ _ _ _ _ _ _ _ T q R l)
  .have:e y=false:=Ri B;rw[this];cases c with
   |false=>rfl
   |true=>exact absurd ⟨i,z,t,a,l⟩ B
 refine⟨e,λy o=>?_,?_⟩
 .obtain⟨i,hi⟩:=Qa1 o;obtain⟨z,n,g,b,q,E⟩:=p i y hi;obtain⟨c,hc⟩:=h1 i z b;rw[C i y z c hi b hc];exact(Z1Y I 8 A z x n v y u g f c O q Q E S hc).1
 .rw[Bool.eq_iff_iff,List.any_eq_true,h2];constructor
  .rintro⟨y,o,he⟩;have:=of_decide_eq_true he;obtain⟨i,z,_,a,l⟩:=this;exact⟨i,z,a,l⟩
  .rintro⟨i,z,a,l⟩;have l1:=r.length;have l2:=w.length;have hi:i<its.length:=by have:=(Qac.mp a).1;omega
   exact⟨its[i],List.getElem_mem hi,by rw[C i _ z true (Qaj hi) a l]⟩
def inF:D->D->Aa Bool
 |x,.lst ys=>inD x ys
 |x,.tup ys=>inD x ys
 | .str i,.str j=>some (!(Builtin.Str.occurrences j i 0 j.length 1).isEmpty)
 |_,_=>none
def fIn(fa fb:En->Aa D):En->Aa Bool:=λenv=>match fa env,fb env with
 |some x,some y=>inF x y
 |_,_=>none
def Zb4(neg:Bool)(K:Frag):R2:=λv u H Q=>∃a b f1 f2 k st1 st2,Rep K st1 H a v f1/\Rep K st2 H b u f2/\inF a b=some k/\Q (.bl (if neg then !k else k)) H
def Z4O(t:X.A.units+9<=cLine):OpR X (compareOp .In) (Zb4 false X.K):=by
 rintro pins s σ H x y v u Q I rx ry ⟨a,b,f1,f2,k,st1,st2,r1,r2,e,q⟩;cases b with
 |lst ys =>
  obtain⟨p,vs,_,rfl,hs,h,_⟩:=cC r2;cases ry;obtain⟨its,w,pl,l⟩:=I.list hs;obtain⟨f,h1,h2⟩:=Z5d (A:=X.A.in1) I (by rw[pG];omega) r1 rx h w (show inD a ys=some k from e)
  refine SeqAt.in_listAt f pl.isList (λy hy=>h1 y (by simpa using hy)) ⟨.bl _,H,I,rfl,?_⟩;rw[show its.toArray.any f=its.any f by simp,h2];exact q
 |tup ys =>
  simp only[Rep]at r2;obtain⟨p,vs,rfl,hs,h⟩:=r2;cases ry;obtain⟨its,w,pl,l⟩:=I.tuple hs;obtain⟨f,h1,h2⟩:=Z5d (A:=X.A.in1) I (by rw[pG];omega) r1 rx h w (show inD a ys=some k from e)
  refine SeqAt.in_tupleAt f pl (λy hy=>h1 y (by simpa using hy)) ⟨.bl _,H,I,rfl,?_⟩;rw[show its.toArray.any f=its.any f by simp,h2];exact q
 |str j =>
  cases a with
  |str i =>
   have n:=cP r1;have r:=cP r2;subst n r;have o:k=_:=(QaG e).symm;subst o;exact Z2M pins s σ H _ _ v u Q I rx ry ⟨i,j,rfl,rfl,q⟩
  |_=>simp only[inF]at e;cases e
 |_=>cases a<;>(simp only[inF]at e;cases e)
def yM(e:fIn fa fb env=some bb):∃x y,fa env=some x/\fb env=some y/\inF x y=some bb:=by
 unfold fIn at e;split at e
 .rename_i x y h1 h2;exact⟨x,y,h1,h2,e⟩
 .cases e
def Za8(f:X.A.units+9<=cLine)(h:QE X m1 rs1 a fa)(i:QE X m2 rs2 b fb)(j:behindInMarks .In b=false:=by with_unfolding_all rfl):QT X (.Compare a [.In] [b] pos) (fIn fa fb) :=
 sW (Z4O f) h i j (λenv x y K H v u f1 f2 Q bb e ea eb r1 r2 hK q=>by
  subst hK;obtain⟨n,l,h1,h2,h3⟩:=yM e;rw[ea]at h1;rw[eb]at h2;cases h1;cases h2;exact⟨x,y,f1,f2,bb,_,_,r1,r2,h3,q⟩) λenv bb e=>let ⟨x,y,h1,h2,_⟩:=yM e;⟨x,y,h1,h2⟩
def Zaa(f:X.A.units+9<=cLine)(i:QE X m1 rs1 a fa)(j:QE X m2 rs2 b fb)(l:behindInMarks .In b=false:=by with_unfolding_all rfl):QE X m rs (.Compare a [.In] [b] pos) (kR (fIn fa fb)) :=
 .mk (vZ (Z4O f) i j l) λσ H Q ⟨env,F,d,ok,e,q⟩=>by
  unfold kR at e;cases h:fIn fa fb env with
  |none=>rw[h]at e;cases e
  |some k =>
   rw[h]at e;cases e;obtain⟨x,y,h1,h2,h3⟩:=yM h;exact two ok h1 h2 λv u H' f1 f2 s r1 r2 _ _=>⟨x,y,f1,f2,k,_,_,r1,r2,h3,q _ _ _ s nS .nil⟩
def Z4h(r:Room k A):A.units+9<=cLine:=by have:=r.un;omega
open Classical in
def pL:Ab D->Aa D
 |[.int i]=>if i.natAbs.log2<1920 then some (.str (toString i)) else none
 |_=>none
def lD(f:Gl X "str")(j:X.mg "str" = none)(h:QE X m1 rs1 a fa)(he:starEach [a] X.env=(false,eval a X.env)::starEach [] X.env:=by rfl)(hpl:(backTo pos (starEach [] X.env)).any (·.1)=false:=by rfl) :
  QE X m rs (.Call (.Name "str" p) [a] [] pos) (λenv=>(aA fa aF env).bind pL) :=
 jY sA f j Y8 (aC h aV he) (λds d vs H fp Q e r q=>by
  unfold pL at e;split at e
  .split at e
   .rename_i i hi;cases e;obtain⟨v,rfl,l⟩:=iW r;rw[bP l];exact⟨i,rfl,hi,q _ _ [] (Same.refl H) kJ (λb hb=>(by cases hb)) Qaz⟩
   .cases e
  .cases e) (he:=he) (hpl:=hpl)
def F6:Ab D->Aa D
 |[.str x]=>if x.length<=640 then(PySem.intText? x).map .int else none
 |_=>none
def Z3h:CallR X (.type "int") (λxs H Q=>∃x n,xs=[.str x]/\PySem.intText? x=some n/\x.length<=640/\Q (.int n) H):=by
 intro pins s σ H xs us Q I r h;obtain⟨x,n,rfl,a,b,q⟩:=h;obtain⟨u,rfl,t,rfl⟩:=pN r;exact PySem.W.KIN.call_text a b ⟨.int n,H,I.tok _,⟨_,rfl⟩,q⟩
def Z1A(h:Gl X "int")(l:X.mg "int" = none)(i:QE X m1 rs1 a fa)(he:starEach [a] X.env=(false,eval a X.env)::starEach [] X.env:=by rfl)(hpl:(backTo pos (starEach [] X.env)).any (·.1)=false:=by rfl) :
  QE X m rs (.Call (.Name "int" p) [a] [] pos) (λenv=>(aA fa aF env).bind F6) :=
 jY Z3h h l Y9 (aC i aV he) (λds d vs H fp Q e r q=>by
  unfold F6 at e;split at e
  .rename_i x;split at e
   .rename_i j;cases f:PySem.intText? x with
    |none=>rw[f]at e;cases e
    |some n =>
     rw[f]at e;cases e;obtain⟨v,rfl,o⟩:=iW r;rw[cP o];exact⟨x,n,rfl,f,j,q _ _ [] (Same.refl H) eR (λb hb=>(by cases hb)) Qaz⟩
   .cases e
  .cases e) (he:=he) (hpl:=hpl)
def D8(fa fb:En->Aa D):En->Aa D:=λenv=>match fa env,fb env with
 |some (.str x),some (.str y)=>if x.length+y.length<=5000 then some (.str (x++y)) else none
 |_,_=>none
def Z6X(j:QE X m1 rs1 a fa)(l:QE X m2 rs2 b fb):QE X m rs (.BinOp a .Add b pos) (D8 fa fb) :=
 .mk (L2.pe_op Z0B j l) λσ H Q ⟨env,F,d,ok,e,q⟩=>by
  unfold D8 at e;split at e
  .rename_i x y f i;split at e
   .rename_i h;cases e;refine two ok f i λv u H' f1 f2 s r1 r2 _ _=>?_;rw[cP r1,cP r2];exact⟨x,y,rfl,rfl,QaE h (by decide),q _ _ _ s kJ .nil⟩
   .cases e
  .cases e
def pP:Ab D->Aa (Ab Str)
 |[]=>some []
 | .str x::r=>(pP r).map (x :: ·)
 |_::_=>none
theorem A5{K:Frag}{st:Bool}{H:Hp}:∀{ds:Ab D}{ys:Ab Str}{vs:Ab V}{fp:Ab Af},pP ds=some ys->Reps K st H ds vs fp->vs=ys.map V.str
 |[],ys,vs,fp,e,r=>by simp only[pP]at e;cases e;simp only[Reps]at r;rw[r.1];rfl
 |d::ds,ys,vs,fp,e,r=>by
  simp only[Reps]at r;obtain⟨v,us,f1,f,rfl,rfl,b,a⟩:=r;cases d with
  |str x =>
   simp only[pP]at e;cases h:pP ds with
   |none=>rw[h]at e;cases e
   |some zs =>
    rw[h]at e;cases e;rw[cP b,A5 h a];rfl
  |_=>simp only[pP]at e;cases e
theorem wO:∀{ys:Ab Str}{us:Ab Ad},Vals (ys.map V.str) us->StrsAre us ys
 |[],_,.nil=>.nil
 |y::ys,_,.cons r w=>by obtain⟨t,rfl⟩:=r;exact .cons y t (wO w)
def Z8N(K:Frag):V->Ab V->Hp->VK->Prop:=λx vs H Q=>∃sep p ys,x=.str sep/\vs=[.ref p]/\SqL K H p (ys.map V.str)/\(ys.map (·.length)).sum+ys.length*sep.length<=16777216/\Q (.str (Txt.join sep ys)) H
def Z4V:MtR X "str.join" (Z8N X.K):=by
 intro pins s σ H x vs v us Q I b i h;obtain⟨j,p,ys,rfl,rfl,hs,a,q⟩:=h;obtain⟨t,rfl⟩:=b;obtain⟨u,rfl,f⟩:=i.one;cases f;obtain⟨its,w,pl,_⟩:=I.list hs;exact PyProof.Rows.join_list pl.isList (ys:=ys) (wO w) a λt' k=>⟨.str _,H,I.tok _,⟨t',rfl⟩,q⟩
def nB(fa fb:En->Aa D):En->Aa D:=λenv=>match fa env,fb env with
 |some (.str x),some (.lst ds)=>match pP ds with
  |some ys=>if (ys.map (·.length)).sum+ys.length*x.length<=1000000 then some (.str (Txt.join x ys)) else none
  |none=>none
 |_,_=>none
def oU(w:QE X m1 rs1 o fo)(he:QE X m2 rs2 e fe)(f:attributeBase o "join" X.env (eval o X.env)=eval o X.env:=by rfl)
  (i:((backTo cpos (starEach [e] X.env)).all (fun x=>!x.1) && (backToKw cpos (keywordEach [] X.env)).all (fun x=>x.1.isSome)
   && decide ([e].length+([]:Ab Keyword).length+(if ([]:Ab Keyword).isEmpty then 0 else 1)<30))=true:=by rfl)
  (b:(apos.endLine==cpos.line)=true:=by rfl) (hs:starEach [e] X.env=(false,eval e X.env)::starEach [] X.env:=by rfl) (a:(backTo cpos (starEach [] X.env)).any (·.1)=false:=by rfl) :
  QE X m rs (.Call (.Attribute o "join" apos) [e] [] cpos) (nB fo fe) :=
 .mk (B6 PySem.F.plainAttrs_str PySem.F.slot_str_join PySem.F.type_str_join Z4V w (aC he aV hs) f i b hs a) λσ H Q ⟨env,F,d,ok,e,q⟩=>by
  unfold nB at e;split at e
  .rename_i x ds u j;split at e
   .rename_i ys n;split at e
    .rename_i y;cases e;refine⟨env,F,_,ok,u,λv H1 f1 s1 r1 c1=>?_⟩;rw[cP r1];refine⟨rfl,env,F,[.lst ds],ok.same s1,by unfold aA aF;rw[j],λvs H2 f2 s2 r2 c2=>?_⟩;obtain⟨B,rfl,r⟩:=iW r2;obtain⟨p,ws,A,rfl,h,l,t⟩:=cC r;rw[A5 n l]at h;exact⟨x,p,ys,rfl,rfl,h,QaE y (by decide),q _ _ _ (s1.trans s2) kJ .nil⟩
    .cases e
   .cases e
  .cases e
def jD(x y:Str):Ab Str:=if (decide (x.length<y.length)||decide (Builtin.Str.strKind x<Builtin.Str.strKind y))=true then[x] else
 if (Builtin.Str.occurrences x y 0 x.length (x.length+1)).isEmpty=true then[x] else Builtin.Str.partsBetween x (Builtin.Str.occurrences x y 0 x.length (x.length+1)) y.length
theorem pM:∀(xs:Ab Str) (tk:Nat),Vals (xs.map V.str) (strsFrom tk xs)
 |[],_=>.nil
 |x::xs,tk=>.cons ⟨_,rfl⟩ (pM xs (tk+1))
def Z6C:V->Ab V->Hp->VK->Prop:=λx vs H Q=>∃z y,x=.str z/\vs=[.str y]/\(y.length==0)=false/\z.length<=sizeLine/\(jD z y).length<=sizeLine/\∀l,H l=none->Q (.ref l) (upd H l (.lst ((jD z y).map V.str)))
def Z2R:MtR X "str.split" Z6C:=by
 intro pins s σ H x vs v us Q I j o h;obtain⟨z,y,rfl,rfl,i,n,a,q⟩:=h;obtain⟨t,rfl⟩:=j;obtain⟨u,rfl,l⟩:=o.one;obtain⟨t2,rfl⟩:=l;have b:=q s.heap.objs.size I.fresh;unfold jD at a b;cases h1:(decide (z.length<y.length)||decide (Builtin.Str.strKind z<Builtin.Str.strKind y)) with
 |true =>
  rw[h1,if_pos rfl]at a b;refine call_meets PySem.F.slot_str_split (typeIs_str _ _ _) PySem.F.entry_str_split (PySem.F.args_str_split_2 _ _) (meets_str_split_cannot_occur z y t t2 h1) ?_;exact⟨.ref _,_,I.lnew (t':=s.toks) (ys:=[V.str z]) (its:=[Value.str z t]) (.cons (show RelV (V.str z) (Value.str z t) from⟨t,rfl⟩) .nil) a,rfl,b⟩
 |false =>
  rw[h1,if_neg (by decide)]at a b;cases f:(Builtin.Str.occurrences z y 0 z.length (z.length+1)).isEmpty with
  |true =>
   rw[f,if_pos rfl]at a b;refine call_meets PySem.F.slot_str_split (typeIs_str _ _ _) PySem.F.entry_str_split (PySem.F.args_str_split_2 _ _) (meets_str_split_not_found z y t t2 h1 i f) ?_;exact⟨.ref _,_,I.lnew (t':=s.toks) (ys:=[V.str z]) (its:=[Value.str z t]) (.cons (show RelV (V.str z) (Value.str z t) from⟨t,rfl⟩) .nil) a,rfl,b⟩
  |false =>
   rw[f,if_neg (by decide)]at a b;refine call_meets PySem.F.slot_str_split (typeIs_str _ _ _) PySem.F.entry_str_split (PySem.F.args_str_split_2 _ _) (meets_str_split_sep z y t t2 h1 i f n a) ?_;exact⟨.ref _,_,I.lnew (its:=strsFrom s.toks _) (pM _ _) (by rw[Qab];exact a),rfl,b⟩
def mZ(fa fb:En->Aa D):En->Aa D:=λenv=>match fa env,fb env with
 |some (.str x),some (.str y)=>if (y.length==0)=false/\x.length<=5000/\(jD x y).length<=1000 then some (.lst ((jD x y).map .str)) else none
 |_,_=>none
theorem B1{K:Frag}{H:Hp}{st:Bool}:∀(ys:Ab Str),Reps K st H (ys.map D.str) (ys.map V.str) []
 |[]=>by simp only[QaV,Reps];exact⟨trivial,trivial⟩
 |n::ns=>by simp only[Qat,Reps];exact⟨.str n,ns.map V.str,[],[],rfl,rfl,kJ,B1 ns⟩
def rE(r:QE X m1 rs1 o fo)(he:QE X m2 rs2 e fe)(h:attributeBase o "split" X.env (eval o X.env)=eval o X.env:=by rfl)
  (j:((backTo cpos (starEach [e] X.env)).all (fun x=>!x.1) && (backToKw cpos (keywordEach [] X.env)).all (fun x=>x.1.isSome)
   && decide ([e].length+([]:Ab Keyword).length+(if ([]:Ab Keyword).isEmpty then 0 else 1)<30))=true:=by rfl)
  (f:(apos.endLine==cpos.line)=true:=by rfl) (hs:starEach [e] X.env=(false,eval e X.env)::starEach [] X.env:=by rfl) (a:(backTo cpos (starEach [] X.env)).any (·.1)=false:=by rfl) :
  QE X m rs (.Call (.Attribute o "split" apos) [e] [] cpos) (mZ fo fe) :=
 .mk (B6 PySem.F.plainAttrs_str PySem.F.slot_str_split PySem.F.type_str_split Z2R r (aC he aV hs) h j f hs a) λσ H Q ⟨env,F,d,ok,e,q⟩=>by
  unfold mZ at e;split at e
  .rename_i x y n p;split at e
   .rename_i i;cases e;refine⟨env,F,_,ok,n,λv H1 f1 s1 r1 c1=>?_⟩;rw[cP r1];refine⟨rfl,env,F,[.str y],ok.same s1,by unfold aA aF;rw[p],λvs H2 f2 s2 r2 c2=>?_⟩;obtain⟨u,rfl,t⟩:=iW r2;rw[cP t];refine⟨x,y,rfl,rfl,i.1,QaE i.2.1 (by decide),lC i.2.2,λl hn=>?_⟩;refine q _ _ [l] ((s1.trans s2).trans (cJ hn)) (mR hn (B1 _)) ⟨λb hb=>.inl ?_,λ_=>⟨by simp,λb hb=>?_⟩⟩
    .have:b=l:=by simpa using hb
     rw[this];exact(s1.trans s2).free hn
    .have:b=l:=by simpa using hb
     rw[this];exact(s1.trans s2).free hn
   .cases e
  .cases e
def kX:Ab D->Aa (Ab Bool)
 |[]=>some []
 | .bl x::r=>(kX r).map (x :: ·)
 |_::_=>none
theorem yW{K:Frag}{st:Bool}{H:Hp}:∀{ds:Ab D}{ys:Ab Bool}{vs:Ab V}{fp:Ab Af},kX ds=some ys->Reps K st H ds vs fp->vs=ys.map V.bl
 |[],ys,vs,fp,e,r=>by simp only[kX]at e;cases e;simp only[Reps]at r;rw[r.1];rfl
 |d::ds,ys,vs,fp,e,r=>by
  simp only[Reps]at r;obtain⟨v,us,f1,f,rfl,rfl,b,a⟩:=r;cases d with
  |bl x =>
   simp only[kX]at e;cases h:kX ds with
   |none=>rw[h]at e;cases e
   |some zs =>
    rw[h]at e;cases e;rw[fI b,yW h a];rfl
  |_=>simp only[kX]at e;cases e
theorem Z0:∀{ys:Ab Bool}{us:Ab Ad},Vals (ys.map V.bl) us->us=ys.map Value.bool
 |[],_,.nil=>rfl
 |y::ys,_,.cons r w=>by cases r;rw[Z0 w];rfl
def Z2y(ys:Ab Bool):((List.range ys.length).all λi=>ys.getD i true)=ys.all id:=by
 rw[Bool.eq_iff_iff,QaS,QaS];constructor
 .intro h y b;obtain⟨i,hi⟩:=Qa1 b;have:=h i (by simpa using(Qac.mp hi).1);simpa[List.getD,hi]using this
 .intro h i hi;have a:i<ys.length:=by simpa using hi
  have:=h ys[i] (List.getElem_mem a);simpa[List.getD,a]using this
def Z3j(hc:X.calm=true):CallR X (.builtin "all") (λvs H Q=>∃(a:Af) (ys:Ab Bool),vs=[.ref a]/\SqL X.K H a (ys.map V.bl)/\Q (.bl (ys.all id)) H):=λpins s σ H xs us Q I w h=>by
 obtain⟨a,ys,rfl,hs,q⟩:=h;obtain⟨u,rfl,r⟩:=pN w;cases (show u=Value.ref a from r)
 obtain⟨its,w1,pl,_⟩:=I.list hs;have E:=Z0 w1;subst E;have l:=pl.isList;obtain⟨o,C,_⟩:=id l;have p:a≠s.heap.objs.size:=QaK (Qal C);refine call_all_walk (wpAny_pyIter_list l ?_);refine⟨s.heap.objs.size,_,_,_,_,_,λi=>ys.getD i true,rfl,Walks.list (A:=X.A.in1) (I.ok.hd hc) s.heap.objs.size a p (ys.map Value.bool).toArray,⟨⟨_,Qax _ rfl,rfl,rfl⟩,l.at λo e=>Qag _ e⟩,?_,λh' tk hk=>?_⟩
 .intro i v s' x J B hq;have f:(ys.map Value.bool)[i]?=some v:=by simpa using B
  rw[QaD]at f;cases j:ys[i]? with
  |none=>rw[j]at f;cases f
  |some y =>
   rw[j]at f;cases f;have n:x y s':=by simpa[List.getD,j]using hq
   exact wpAny_truthy_bool n
 .have t:∀b o,s.heap.get? b=some o->h'.get? b=some o:=λb o e=>hk b o (λG=>by
   have:b=s.heap.objs.size:=by simpa using G
   exact absurd (Qal e) (by rw[this];exact Qa9 _)) (Qag _ e)
  refine⟨.bl (ys.all id),H,I.kept t,?_,q⟩;have F:=Z2y ys;show Value.bool _=Value.bool _;rw[<- F];simp
def Z82:Ab D->Aa D
 |[.lst ds]=>(kX ds).map λys=>.bl (ys.all id)
 |_=>none
def Z92(i:X.calm=true)(n:Gl X "all")(t:X.mg "all" = none)(o:QE X m1 rs1 a fa)(he:starEach [a] X.env=(false,eval a X.env)::starEach [] X.env:=by rfl)(hpl:(backTo pos (starEach [] X.env)).any (·.1)=false:=by rfl) :
  QE X m rs (.Call (.Name "all" p) [a] [] pos) (λenv=>(aA fa aF env).bind Z82) :=
 rH (Z3j i) n t PyProof.Rows.boot_all (aC o aV he) (λds d vs H fp Q e r q=>by
  unfold Z82 at e;split at e
  .rename_i h;cases hq:kX h with
   |none=>rw[hq]at e;cases e
   |some ns =>
    rw[hq]at e;cases e;obtain⟨v,rfl,u⟩:=iW r;obtain⟨p,ws,w,rfl,f,j,l⟩:=cC u;rw[yW hq j]at f;exact⟨p,ns,rfl,f,q _ _ [] (Same.refl H) nS (λb hb=>(by cases hb)) Qaz⟩
  .cases e) (he:=he) (hpl:=hpl)
def Its(x:Str):It:=⟨λi _=>i<x.cps.size,λi H v H'=>H'=H/\∃c,x.cps[i]?=some c/\v=.str ⟨#[c]⟩,λi _=>x.cps.size<=i⟩
def Z3K{P:Aj}{w:Ak}{K:Frag}{tg:Ag}(x:Str)(t:Tok)(it:Af):Z1c P w K tg (Its x) [it] it (λi h=>h.IsStrIter it "str_ascii_iterator" x t i) where
 mem:=by simp
 obj:=λi h st b hb=>by
  have e:b=it:=by simpa using hb
  subst e;obtain⟨o,e,c,d⟩:=st;exact⟨o,e,λv z=>by rw[d]at z;cases z⟩
 keep:=λi h h' st k=>by
  obtain⟨o,e,c,d⟩:=st;exact⟨o,k it (by simp) o e,c,d⟩
 item:=by
  intro X l hw p hc i pins s σ H E I f st n;subst l hw p;obtain⟨q,f1,B,u,j,r⟩:=f it (by simp);have y:i<x.cps.size:=n;have a:x.cps[i]?=some x.cps[i]:=Array.getElem?_eq_getElem y;refine wpAny_pyNext_ascii_item st a λh' st' sb=>?_;have A:Inv X pins σ H { s with heap:=h',toks:=s.toks+1 }:=I.turned (t':=s.toks+1) (λb o hb e=>(sb.2 b hb).trans e) q f1 u j r;obtain⟨o,e,c,d⟩:=id st';exact⟨_,rfl,Z1Q (s:={ s with heap:=h',toks:=s.toks+1 }) e c d (by decide) ⟨.str ⟨#[x.cps[i]]⟩,H,A,⟨_,rfl⟩,⟨rfl,_,a,rfl⟩,st',λb hb=>(f b hb).1⟩⟩
 done:=by
  intro X l hw p hc i pins s σ H E I f st n;subst l hw p;obtain⟨q,f1,B,u,j,r⟩:=f it (by simp);have a:x.cps[i]?=none:=by simp[show x.cps.size<=i from n]
  exact wpAny_pyNext_ascii_end (I.ok.hd hc) st a λh' eb=>⟨rfl,I.turned (t':=s.toks) (λb o hb e=>eb b o hb e) q f1 u j r⟩
 self:=λ_ _ _ _ _ st h=>wpAny_pyIter_striter_ascii st h
def Zb7(tl:TE):TI:=λσ H R=>tl σ H λv H1=>∃x,v=.str x/\x.cps.all (· < 128)=true/\R (Its x) H1
def Z96{l:Ag}{tl:TE}(f:PE X l tl):PI X tg l (Zb7 tl):=by
 intro pins s σ H R I h;refine thn (f pins s σ H _ I h) λv s1 ⟨x,H1,I1,r1,q1⟩=>?_;obtain⟨z,rfl,a,q⟩:=q1;obtain⟨t,rfl⟩:=r1;refine wpAny_pyIter_ascii a ?_;refine⟨s1.heap.objs.size,[s1.heap.objs.size],_,_,H1,rfl,I1.kept (t':=s1.toks) λb o e=>Qag _ e,Z3K z t _,⟨_,Qax _ rfl,rfl,rfl⟩,λb hb=>?_,q⟩;have e:b=s1.heap.objs.size:=by simpa using hb
 subst e;exact I1.fpOk (Qap _) (I1.hok.fresh (Qap _))
def sR(x:Str):Ab D:=x.cps.toList.map λc=>.str ⟨#[c]⟩
def Z36{K:Frag}{H0:Hp}(x:Str):F5 K (Its x) H0 (sR x) []:=λH k i=>by
 refine⟨λd hd=>?_,λf=>(show x.cps.size<=i by simpa[sR]using f)⟩;unfold sR at hd;rw[QaD]at hd;cases a:x.cps.toList[i]? with
 |none=>rw[a]at hd;cases hd
 |some c =>
  rw[a]at hd;cases hd;have hc:x.cps[i]?=some c:=by simpa using a
  refine⟨(show i<x.cps.size by have:=(Qac.mp a).1;simpa using this),λv H' y=>?_⟩;obtain⟨rfl,c',h1,rfl⟩:=y;rw[hc]at h1;cases h1;exact⟨Same.refl _,[],kJ,λb hb=>hb⟩
def X6(fa:En->Aa D):En->Aa (Ab D):=λenv=>match fa env with
 |some (.str x)=>if x.cps.all (· < 128)=true then some (sR x) else none
 |_=>none
def Z8W(f:QE X m1 rs a fa):QI X tg [] a (X6 fa) :=
 .mk (Z96 f) λσ H R ⟨env,F,ds,ok,e,q⟩=>by
  unfold X6 at e;split at e
  .rename_i x h1;split at e
   .rename_i h;cases e;refine⟨env,F,_,ok,h1,λv H' fp s r c=>?_⟩;rw[cP r];exact⟨x,rfl,h,q _ H' [] s (Z36 x) (λb hb=>(by cases hb)) .nil⟩
   .cases e
  .cases e
def esK:Ab (Str×Int)->Ab DictEntry->Prop
 |[],[]=>True
 |p::kvs,e::es=>((∃t,e.key=.str p.1 t)/\∃t,e.val=.int p.2 t)/\esK kvs es
 |_,_=>False
structure Z8s(K:Frag)(P:Params)(mg:Str->Option Value)(name:Str)(kvs:List (Str×Int)):Prop where
 ex:∃a es n,mg name=some (.ref a)/\K.lookup a=some ⟨.type "dict",none,.dict es n,#[]⟩/\PySem.W.KeysLit P es.toList/\(a==sysModules)=false/\esK kvs es.toList
theorem X8:∀{kvs:Ab (Str×Int)}{es:Ab DictEntry},esK kvs es->match kvs.lookup x with
  |some i=>∃t,((es.find? λe=>Value.isStrOf x e.key).map (·.val))=some (.int i t)
  |none=>((es.find? λe=>Value.isStrOf x e.key).map (·.val))=none
 |[],[],_=>rfl
 |[],_::_,h=>h.elim
 |_::_,[],h=>h.elim
 |(k,i)::kvs,e::es,⟨⟨⟨t,hk⟩,t2,hv⟩,r⟩=>by
  have b:=X8 (x:=x) r;have hs:Value.isStrOf x e.key=(x==k):=by
   rw[hk];show(k==x)=(x==k);cases h1:k==x with
   |true=>rw[eq_of_beq h1];exact(beq_self_eq_true x).symm
   |false =>
    cases h2:x==k with
    |false=>rfl
    |true=>rw[eq_of_beq h2,beq_self_eq_true]at h1;cases h1
  cases a:x==k with
  |true =>
   simp only[QaF,a];rw[a]at hs;exact⟨t2,by rw[Qa7,hs];simp only[QaH,hv]⟩
  |false =>
   simp only[QaF,a];rw[a]at hs;rw[Qa7,hs];exact b
section
variable {X:Cx}{m m1:Bool}{rs rs1:Ab Nat}{e:Ag}{fe:En->Aa D}{p apos cpos:Pos}{nm:Str}{kvs:Ab (Str×Int)}
def F7(kvs:Ab (Str×Int)):Ab D->Aa D
 |[.str x]=>some (match kvs.lookup x with|some i=>.int i|none=>.non)
 |_=>none
def Z6W(T:Z8s X.K X.w.params X.mg nm kvs)(O:Gl X nm)(he:QE X m1 rs1 e fe)(E:nDb nm:=by decide)(j:attributeBase (.Name nm p) "get" X.env (eval (.Name nm p) X.env)=eval (.Name nm p) X.env:=by rfl)
  (B:((backTo cpos (starEach [e] X.env)).all (fun x=>!x.1) && (backToKw cpos (keywordEach [] X.env)).all (fun x=>x.1.isSome)
   && decide ([e].length+([]:Ab Keyword).length+(if ([]:Ab Keyword).isEmpty then 0 else 1)<30))=true:=by rfl)
  (h:(apos.endLine==cpos.line)=true:=by rfl) (f:backTo cpos (starEach [e] X.env)=[(false,eval e X.env)]:=by rfl) :
  QE X m rs (.Call (.Attribute (.Name nm p) "get" apos) [e] [] cpos) (λenv=>(aA fe aF env).bind (F7 kvs)):=by
 intro pins s σ H Q I ⟨env,F,d,ok,ee,q⟩;obtain⟨a,es,n,R,J,N,lo,L⟩:=T.ex;have C:∀{s':Ac}{H':Hp},Inv X pins σ H' s'->X.K.In s'.heap:=λP=>P.kIn;refine wpAny_Call_method j B h PySem.F.plainAttrs_dict PySem.F.slot_dict_get PySem.F.type_dict_get (thn (oW (v:=.ref a) O R rfl E pins s σ H (λv H1=>v=.ref a/\H1=H) I ⟨rfl,rfl⟩) λu s1 ⟨x,H1,I1,rx,⟨ex,eH⟩⟩=>?_);subst ex eH;obtain rfl:u=Value.ref a:=rx;have o:=PySem.W.mapOf_K (prog:=X.prog) (w:=X.w) (C I1) J N;refine⟨o.typeIs,o.noDict,?_⟩;rw[f];cases h1:fe env with
 |none=>simp only[aA,h1]at ee;cases ee
 |some dx =>
  simp only[aA,aF,h1,Qbc]at ee;cases dx with
  |str x =>
   simp only[F7]at ee;refine Calls.callWith_builtin rfl (Calls.evalArgs_plain (Calls.spliced_cons (thn (he pins s1 σ H1 (λv H2=>v=.str x/\Same H1 H2) I1 ⟨env,F,_,ok,h1,λv H2 fp s2 r c=>⟨cP r,s2⟩⟩) λiv s2 ⟨y,H2,I2,ry,ey,sm⟩=>Calls.spliced_nil ?_)));subst ey;obtain⟨t,rfl⟩:=ry;have l:=PySem.W.mapOf_K (prog:=X.prog) (w:=X.w) (C I2) J N;refine call_meetsIn PySem.F.slot_dict_get l.typeIs PySem.F.entry_dict_get (PySem.F.args_dict_get_2 _ _) (meets_dict_get (strKind X.prog X.w) a (strKind_is X.prog X.w x t) lo) ⟨_,l,?_⟩;have b:=X8 (x:=x) L;have M:findBy Value.isStrOf es x=((es.toList.find? λe=>Value.isStrOf x e.key).map (·.val)):=by
    unfold findBy;rw[<- Array.find?_toList]
   rw[M];cases G:kvs.lookup x with
   |none =>
    rw[G]at b ee;have A:d=.non:=(QaG ee).symm;subst A;rw[b];exact⟨.non,H2,I2.tok _,rfl,q _ H2 [] sm mQ .nil⟩
   |some i =>
    rw[G]at b ee;have A:d=.int i:=(QaG ee).symm;subst A;obtain⟨t2,b⟩:=b;rw[b];exact⟨.int i,H2,I2.tok _,⟨t2,rfl⟩,q _ H2 [] sm eR .nil⟩
  |_=>simp only[F7]at ee;cases ee
end
structure Zbn(K:Frag)(C:Addr):Prop where
 cl:Cls K C
 ha:PySem.W.findIn K (.ref C) "__class__" = some (some (.builtin "object.__class__"))
 hn:PySem.W.specialIn K (.builtin "object.__class__") "__get__" = some (some (.builtin "getset_descriptor.__get__"))
 htk:PySem.W.takesIn K (.builtin "object.__class__")=some true
 hm:PySem.W.mroIn K C (.type "object")=some true
open Classical in
section
variable {X:Cx}{e:Ag}{f:En->Aa D}{p pos pos' bpos:Pos}{x y:Str}{i j:Nat}
def iK(j i:Nat)(f:En->Aa D):En->Res:=λenv=>match env[i]?,f env with
 |some (some (true,.lst xs)),some (.lst ys)=>if flats xs=true/\xs.length+ys.length<=1000 then .next (env.set j (some (true,.lst (xs++ys)))) else .bad
 |_,_=>.bad
def Z5A{K:Frag}{P H:Hp}{σ:L2.St}{env:En}{F:Nat->Ab Af}{xs ys:Ab D}{Q:VK}(hF:EnvS K P H σ env F)(t:env[i]?=some (some (true,.lst xs)))(A:f env=some (.lst ys))(B:flats xs=true)(G:xs.length+ys.length<=1000)
  (q:∀v H' fp,Same H H'->Rep K true H' (.lst (xs++ys)) v fp->fp.Nodup->(∀b∈fp,H b=none)->Q v H'):∃v,σ[i]?=some (some v)/\tD K true [] f σ H λu H2=>Za7 v u H2 Q:=by
 obtain⟨v,l,_⟩:=hF.ok i true _ t;obtain⟨L,M,C,J⟩:=hF.own i _ t;obtain⟨a,vs,O,rfl,N,I,r⟩:=iX (C v l);obtain⟨rfl,w⟩:=Reps.flat _ _ _ B r;refine⟨.ref a,l,env,F,.lst ys,hF.ok,A,λu H2 f2 s2 r2 c2=>?_⟩;obtain⟨b,us,x,rfl,rfl,E,h⟩:=iX r2;have j:=c2.2 rfl;refine⟨a,b,vs,us,rfl,rfl,s2 _ _ I,E,lC (by rw[r.length,h.length];exact G),λp hp=>?_⟩;have n:Reps K true H2 (xs++ys) (vs++us) ([]++x):=((w true).same s2).append h;rw[Qbq]at n;refine q _ _ (p::x) (s2.trans (cJ hp)) (mR hp n) ?_ λc hc=>?_
 .refine QaA.mpr ⟨λz=>?_,(QaA.mp j.1).2⟩;obtain⟨o,y⟩:=Reps.dom _ _ _ h p z;rw[hp]at y;cases y
 .rcases Qad.mp hc with z|z
  .rw[z];exact s2.free hp
  .exact j.2 c (Qaa _ z)
def sY(j i:Nat)(b:X.N.Nodup)(l:X.N[j]?=some y)(n:Loc X.env.scope y)(he:QE X true [] e f)(w:X.N[i]?=some x:=by rfl)(u:Vis X.env.scope x:=by first|exact Or.inl rfl|exact Or.inr (Or.inl rfl)|exact Or.inr (Or.inr rfl))(hd:nDb x:=by decide)(a:(x==("__classdict__" : Str))=false:=by decide)
  (hs:swapsWith (.BinOp (.Name x p) .Add e bpos) (some (.Name y pos')) pos.line X.env=pure false:=by rfl) (A:X.fn y=true\/X.env.scope.names.lookup y=some .local:=by first|exact .inl rfl|exact .inr rfl|assumption) :
  QS X (.Assign [.Name y pos'] (.BinOp (.Name x p) .Add e bpos) pos) (iK j i f):=.mk (qD b l n (L2.pe_op Z0A (kH w u hd a) he) hs A) λE σ H ⟨P,env,I,q⟩=>by
 obtain⟨F,hF⟩:=I.ex;unfold iK at q;split at q
 .rename_i xs ys o t;split at q
  .rename_i h;exact Z5A hF.nrm o t h.1 h.2 λv H' fp s r nd fr=>q _ _ (oP j I.same I.len hF.nrm s r nd fr)
  .exact q.elim
 .exact q.elim
end
def sM(h:IntsAre its ns):Vals (ns.map V.int) its:=by
 induction h with
 |nil=>exact .nil
 |cons n t h ih=>exact .cons ⟨t,rfl⟩ ih
def Reps.consR{K:Frag}{st:Bool}{H:Hp}{d:D}{v:V}{f1 a:Ab Af}{ds:Ab D}{vs:Ab V}(f:Rep K st H d v f1)(b:Reps K st H ds vs a):Reps K st H (d::ds) (v::vs) (f1++a):=by
 simp only[Reps];exact⟨v,vs,f1,a,rfl,rfl,f,b⟩
def Z6E:V->Ab V->Hp->VK->Prop:=λx vs H Q=>∃i:Int,x=.int i/\vs=[]/\Q (.int ((Builtin.Int.intBits i:Nat):Int)) H
def Z2S:MtR X "int.bit_length" Z6E:=by
 intro pins s σ H x vs v us Q I b a h;obtain⟨i,rfl,rfl,q⟩:=h;obtain⟨t,rfl⟩:=b;cases a;exact call_int_bit_length ⟨.int ((Builtin.Int.intBits i:Nat):Int),H,I.tok _,⟨_,rfl⟩,q⟩
def X7(fa:En->Aa D):En->Aa D:=λenv=>match fa env with
 |some (.int i)=>some (.int ((Builtin.Int.intBits i:Nat):Int))
 |_=>none
def Z1E(h:QE X m1 rs1 a fa)(f:attributeBase a "bit_length" X.env (eval a X.env)=eval a X.env:=by rfl)(b:(apos.endLine==cpos.line)=true:=by rfl) :
  QE X m rs (.Call (.Attribute a "bit_length" apos) [] [] cpos) (X7 fa) :=
 .mk (Z9d PySem.F.plainAttrs_int slot_int_bit_length type_int_bit_length Z2S h f b) λσ H Q ⟨env,F,d,ok,e,q⟩=>by
  unfold X7 at e;split at e
  .rename_i i h1;cases e;refine⟨env,F,_,ok,h1,λv H' fp s r c=>?_⟩;rw[bP r];exact⟨rfl,i,rfl,rfl,q _ H' [] s eR .nil⟩
  .cases e
def Z7H(I:Inv X pins σ H s){A:Ai}{x:D}{ys:Ab D}{v:V}{vs:Ab V}{u:Ad}{its:Ab Ad}{f g:Ab Af}{k:Bool}(O:A.units+8<=cLine)(Q:Rep X.K st1 H x v f)(S:RelV v u)(r:Reps X.K st2 H ys vs g)(w:Vals vs its)(h:inD x ys=some k) :
  ∃e:Ad->Bool,(∀y∈its,EqAt A s y u (e y))/\∀(i:Nat) (y:Ad) (z:D) (c:Bool),its[i]?=some y->ys[i]?=some z->eqN 8 z x=some c->e y=c:=by
 obtain⟨h1,h2⟩:=N0 h
 classical
 have l:∀(i:Nat) (y:Ad),its[i]?=some y->∃(z:D) (b:V) (fz:Ab Af),ys[i]?=some z/\Rep X.K st2 H z b fz/\RelV b y:=by
  intro i y e;have hi:i<its.length:=(Qac.mp e).1;have l1:=r.length;have l2:=w.length;have t:i<ys.length:=by omega
  obtain⟨b,fz,o,p,_⟩:=r.get (Qaj t);obtain⟨U,a,n⟩:=w.get o;rw[e]at a;cases a;exact⟨_,b,fz,Qaj t,p,n⟩
 let e:Ad->Bool:=λy=>decide (∃(i:Nat) (z:D),its[i]?=some y/\ys[i]?=some z/\eqN 8 z x=some true)
 have B:∀(i:Nat) (y:Ad) (z:D) (c:Bool),its[i]?=some y->ys[i]?=some z->eqN 8 z x=some c->e y=c:=by
  intro i y z c o p F;by_cases q:∃(i:Nat) (z:D),its[i]?=some y/\ys[i]?=some z/\eqN 8 z x=some true
  .have:e y=true:=Rj q;rw[this];obtain⟨j,Z,M,J,R⟩:=q;obtain⟨Y,P,g1,a,n,C⟩:=l i y o;obtain⟨W,N,g2,G,T,L⟩:=l j y M;rw[p]at a;cases a;rw[J]at G;cases G;have E:P=N:=RelV.inj C L;subst E;exact(X9 I 8 _ _ _ _ _ _ _ _ T n R F)
  .have:e y=false:=Ri q;rw[this];cases c with
   |false=>rfl
   |true=>exact absurd ⟨i,z,o,p,F⟩ q
 refine⟨e,λy t=>?_,?_⟩
 .obtain⟨i,hi⟩:=Qa1 t;obtain⟨z,b,g,a,n,C⟩:=l i y hi;obtain⟨c,hc⟩:=h1 i z a;rw[B i y z c hi a hc];exact(Z1Y I 8 A z x b v y u g f c O n Q C S hc).1
 .exact B
def Z32(x:D):Ab D->Aa Nat
 |[]=>none
 |y::ys=>match eqN 8 y x with
  |some true=>some 0
  |some false=>(Z32 x ys).map (· + 1)
  |none=>none
theorem W6:∀{ys:Ab D}{j:Nat},Z32 x ys=some j->(∃z,ys[j]?=some z/\eqN 8 z x=some true)/\∀(i:Nat) z,i<j->ys[i]?=some z->eqN 8 z x=some false
 |[],j,h=>by simp[Z32]at h
 |y::ys,j,h=>by
  simp only[Z32]at h;split at h
  .rename_i e;cases h;exact⟨⟨y,rfl,e⟩,λi z hi=>absurd hi (Nat.not_lt_zero _)⟩
  .rename_i e;cases hq:Z32 x ys with
   |none=>rw[hq]at h;cases h
   |some k =>
    rw[hq]at h;cases h;obtain⟨b,a⟩:=W6 hq;refine⟨by simpa using b,λi z hi hz=>?_⟩;cases i with
    |zero=>simp at hz;subst hz;exact e
    |succ i=>exact a i z (Nat.lt_of_succ_lt_succ hi) (by simpa using hz)
  .cases h
def Z5X(x:D)(ys:Ab D):Aa Nat:=if inD x ys=some true then Z32 x ys else none
def Z8O(K:Frag):V->Ab V->Hp->VK->Prop:=λx vs H Q=>∃d ys f1 f2 st1 st2 v j,vs=[v]/\Rep K st1 H (.lst ys) x f1/\Rep K st2 H d v f2/\Z5X d ys=some j/\ys.length<=1000/\Q (.int (j:Nat)) H
def Z4W(hu:X.A.units+9<=cLine):MtR X "list.index" (Z8O X.K):=by
 intro pins s σ H x vs v us Q I O U h;obtain⟨d,ys,f1,f2,Z,W,vd,j,rfl,N,P,a,hl,q⟩:=h;obtain⟨u,rfl,L⟩:=U.one;obtain⟨p,ws,_,rfl,hs,r,_⟩:=cC N;cases O;obtain⟨its,w,pl,hz⟩:=I.list hs;unfold Z5X at a;split at a
 .rename_i t;obtain⟨M,h1,h2⟩:=Z7H (A:=X.A.in1) I (by rw[pG];omega) P L r w t;obtain⟨⟨z,J,R⟩,S⟩:=W6 a;have l1:=r.length;have l2:=w.length;have G:j<its.length:=by have:=(Qac.mp J).1;omega
  obtain⟨o,n,T,hc,b,f⟩:=id pl;obtain⟨oc,od,Y,C⟩:=o;simp only at hc b f;subst hc b f;refine call_meets PySem.F.slot_list_index pl.isList.typeIs PySem.F.entry_list_index (PySem.F.args_list_index_2 _ _) (PySem.SeqAt.list_indexAt p its.toArray n none C u M j (by simpa using G) (by omega) ?_ ?_) ⟨T,λy hy=>h1 y (by simpa using hy),?_⟩
  .exact h2 j _ z true (by simp[Qaj G]) J R
  .intro i hi B;have E:i<its.length:=by simpa using hi
   have l:i<ys.length:=by omega
   exact h2 i _ _ false (by simp[Qaj E]) (Qaj l) (S i _ B (Qaj l))
  .exact⟨.int (j:Nat),H,I.tok _,⟨_,rfl⟩,q⟩
 .cases a
def Z7Q(fa fb:En->Aa D):En->Aa D:=λenv=>match fa env,fb env with
 |some (.lst ys),some x=>if ys.length<=1000 then(Z5X x ys).map λj=>.int (j:Nat) else none
 |_,_=>none
def Z4x(t:X.A.units+9<=cLine)(w:QE X m1 rs1 a fa)(y:QE X m2 rs2 b fb)
  (i:attributeBase a "index" X.env (eval a X.env)=eval a X.env:=by rfl)
  (o:((backTo cpos (starEach [b] X.env)).all (fun x=>!x.1) && (backToKw cpos (keywordEach [] X.env)).all (fun x=>x.1.isSome)
   && decide (([b]:Ab Ag).length+([]:Ab Keyword).length+(if ([]:Ab Keyword).isEmpty then 0 else 1)<30))=true:=by rfl)
  (h:(apos.endLine==cpos.line)=true:=by rfl) (l:starEach [b] X.env=(false,eval b X.env)::starEach [] X.env:=by rfl) (f:(backTo cpos (starEach [] X.env)).any (·.1)=false:=by rfl) :
  QE X m rs (.Call (.Attribute a "index" apos) [b] [] cpos) (Z7Q fa fb) :=
 .mk (B6 Qbp PySem.F.slot_list_index PySem.F.type_list_index (Z4W t) w (pa_cons y pa_nil l) i o h l f) λσ H Q ⟨env,F,d,ok,e,q⟩=>by
  unfold Z7Q at e;split at e
  .rename_i ys x h1 h2;split at e
   .rename_i B;cases n:Z5X x ys with
    |none=>rw[n]at e;cases e
    |some j =>
     rw[n]at e;cases e;refine⟨env,F,_,ok,h1,λv H1 fp1 s1 r1 c1=>?_⟩;obtain⟨p,ws,_,u,r,_⟩:=cC r1;subst u;refine⟨.inl ⟨rfl,ws,r⟩,env,F,_,ok.same s1,h2,λv2 H2 fp2 s2 r2 c2=>?_⟩;exact⟨x,ys,fp1,fp2,m1,m2,v2,j,rfl,Rep.same s2 r1,r2,n,B,q _ H2 [] (s1.trans s2) eR .nil⟩
   .cases e
  .cases e
def oS(i:Nat)(fk f:En->Aa D):En->Res:=λenv=>match f env,fk env,env[i]? with
 |some d,some (.int k),some (some (true,.lst ds))=>match ixN ds.length k with
  |some j=>match ds[j]? with
   |some (.lst es)=>if es.length<=1000/\flats es=true/\flat d=true then .next (env.set i (some (true,.lst (ds.set j (.lst (es++[d])))))) else .bad
   |_=>.bad
  |none=>.bad
 |_,_,_=>.bad
def Z2F
  (hpe:PE X (.Call (.Attribute (.Subscript (.Name x p) k p3) "append" apos) [e] [] cpos) (tBM X.K "list" K4 (tOp (rIx X.K) (zE i) (tD X.K m2 rs2 fk)) (Z3Q (tD X.K m1 rs1 f) Z6c)))
  (hs:swapsWith (.Call (.Attribute (.Subscript (.Name x p) k p3) "append" apos) [e] [] cpos) none pos.line X.env=pure false:=by rfl) :
  QS X (.Expr (.Call (.Attribute (.Subscript (.Name x p) k p3) "append" apos) [e] [] cpos) pos) (oS i fk f):=.mk (rJ hpe hs) λE σ H ⟨P,env,I,q⟩=>by
 obtain⟨F,hF⟩:=I.ex;unfold oS at q;split at q
 .rename_i d k ds h1 hk h2;split at q
  .rename_i j Y;split at q
   .rename_i es y;split at q
    .rename_i h;obtain⟨v,n,_⟩:=hF.ok i true _ h2;obtain⟨o,o2,W,o4⟩:=hF.own i _ h2;obtain⟨a,vs,C,rfl,l,S,A⟩:=iX (W v n);obtain⟨b,us,J,G,R,M,b5⟩:=Reps.modify A y h.2.1;have T:atI vs k=some (.ref b):=by unfold atI;rw[A.length,Y];exact J
     refine⟨.ref a,n,env,F,_,hF.ok,hk,λvk H0 fp0 s0 r0 c0=>?_⟩;rw[bP r0];refine .inl ⟨a,vs,k,.ref b,rfl,rfl,SqL.of (s0 _ _ S),T,.inl ⟨rfl,us,SqL.of (s0 _ _ G)⟩,env,F,d,hF.ok.same s0,h1,λw H' fp s1 r c=>?_⟩;have s:Same H H':=s0.trans s1;have t:=s _ _ G;refine⟨b,us,w,rfl,rfl,t,lW (by rw[R.length];exact h.1),q _ _ ?_⟩;obtain⟨g1,Z⟩:=Rep.flat _ _ _ h.2.2 r;have O:C.Nodup:=by rw[l]at o;exact(QaA.mp o).2
     have L:a≠b:=λz=>by rw[l]at o;exact(QaA.mp o).1 (z ▸ M)
     obtain⟨b',us',Q,c2,c3,c4,U⟩:=Reps.modify (A.same s) y h.2.1;have N:b'=b:=by rw[J]at Q;cases Q;rfl
     subst N;have B:=U O (us++[w]) (es++[d]) (by have:=(R.same s).snoc (Z true);simpa using this);refine Z3E (I.same.trans s) I.len (hF.grow s) h2 n (by rw[l];exact Qaa _ M) t (by intro xs z;cases z) (by intro x u z;cases z) (λst=>?_);rw[l];exact Z0n (by rw[bB L];exact s _ _ S) B
    .exact q.elim
   .exact q.elim
  .exact q.elim
 .exact q.elim
def Z2E(i:Nat)(r:QE X m2 rs2 k fk)(he:QE X m1 rs1 e f)(q:X.N[i]?=some x:=by rfl)(t:Vis X.env.scope x:=by first|exact Or.inl rfl|exact Or.inr (Or.inl rfl)|exact Or.inr (Or.inr rfl))(hd:nDb x:=by decide)(n:(x==("__classdict__" : Str))=false:=by decide)
  (o:wE k:=by exact λ_ _=>rfl)
  (h:attributeBase (.Subscript (.Name x p) k p3) "append" X.env (eval (.Subscript (.Name x p) k p3) X.env)=eval (.Subscript (.Name x p) k p3) X.env:=by rfl)
  (l:((backTo cpos (starEach [e] X.env)).all (fun x=>!x.1) && (backToKw cpos (keywordEach [] X.env)).all (fun x=>x.1.isSome)
   && decide (([e]:Ab Ag).length+([]:Ab Keyword).length+(if ([]:Ab Keyword).isEmpty then 0 else 1)<30))=true:=by rfl)
  (b:(apos.endLine==cpos.line)=true:=by rfl) (j:starEach [e] X.env=(false,eval e X.env)::starEach [] X.env:=by rfl) (a:(backTo cpos (starEach [] X.env)).any (·.1)=false:=by rfl)
  (hs:swapsWith (.Call (.Attribute (.Subscript (.Name x p) k p3) "append" apos) [e] [] cpos) none pos.line X.env=pure false:=by rfl) :
  QS X (.Expr (.Call (.Attribute (.Subscript (.Name x p) k p3) "append" apos) [e] [] cpos) pos) (oS i fk f) :=
 Z2F (hpe:=B6 Qbp PySem.F.slot_list_append PySem.F.type_list_append pA (Z4J Z0L (kH q t hd n) r o) (pa_cons he pa_nil j) h l b j a) (hs:=hs)
end PD
namespace L2
open PySem PySem.Spec PyProof.Rows
def Z5H:bootBuiltins "zip" = some (.type "zip"):=by decide +kernel
end L2
namespace PD
open PySem PySem.Spec PyProof.Rows L2
def nG:Ab D->Ab D->Ab D
 |x::xs,y::ys=>.tup [x,y]::nG xs ys
 |_,_=>[]
theorem Q1:∀(xs ys:Ab D) (i:Nat),(nG xs ys)[i]?=match xs[i]?,ys[i]? with|some x,some y=>some (.tup [x,y])|_,_=>none
 |[],ys,i=>by simp[nG]
 |x::xs,[],i=>by
  simp only[nG,List.getElem?_nil];split<;>simp_all
 |x::xs,y::ys,0=>by simp[nG]
 |x::xs,y::ys,i+1=>by simp only[nG,List.getElem?_cons_succ];exact Q1 xs ys i
theorem Q0:∀(xs ys:Ab D),(nG xs ys).length=min xs.length ys.length
 |[],ys=>by simp[nG]
 |x::xs,[]=>by simp[nG]
 |x::xs,y::ys=>by simp only[nG,Qaf,Q0 xs ys];omega
def Z80:Ab D->Aa (Ab D)
 |[.lst xs,.lst ys]=>some (nG xs ys)
 |_=>none
def Z7P(fa:En->Aa D):En->Aa D:=λenv=>match fa env with
 |some (.int i)=>some (.int (-i))
 |_=>none
def Z6S(b:QE X m1 rs1 a fa):QE X m rs (.UnaryOp .USub a pos) (Z7P fa) :=
 .mk (L2.pe_un Z02 b) λσ H Q ⟨env,F,d,ok,e,q⟩=>by
  unfold Z7P at e;split at e
  .rename_i i h1;cases e;refine⟨env,F,_,ok,h1,λv H' fp s r c=>?_⟩;rw[bP r];exact⟨i,rfl,q _ _ _ s eR .nil⟩
  .cases e
end PD
namespace L2
open PySem PySem.Spec PyProof.Rows
def Z8p(I:Inv X pins σ H s)(h:SqT X.K H b (k.map kV)):(tupleKind (gI X.prog X.w)).is s.heap k b:=by
 obtain⟨its,r,⟨o,h1,h2,n,h3⟩,_⟩:=I.tuple h;exact⟨o,its.toArray,n,h1,h2,h3,by simpa using C6 r⟩
end L2
namespace PD
open PySem PySem.Spec PyProof.Rows L2
def keyOf:D->Aa Key
 | .int i=>some (.inl i)
 | .str x=>some (.inr x)
 |_=>none
def Z2X{K:Frag}{st:Bool}(e:keyOf d=some k)(r:Rep K st H d v fp):v=kV k:=by
 cases d with
 |int i=>cases e;exact bP r
 |str x=>cases e;exact cP r
 |_=>cases e
def iV{K:Frag}:Reps K m H [] [] []:=by simp only[Reps];exact⟨trivial,trivial⟩
abbrev Itm:=Sum Nat (En->Aa D)
def iI:Ab Itm->En->Aa (Ab D)
 |[],_=>some []
 | .inl i::r,env=>match env[i]?,iI r env with
  |some (some (true,d)),some ds=>some (d::ds)
  |_,_=>none
 | .inr f::r,env=>match f env,iI r env with
  |some d,some ds=>some (d::ds)
  |_,_=>none
def ownOf:Ab Itm->Ab Nat
 |[]=>[]
 | .inl i::r=>i::ownOf r
 | .inr _::r=>ownOf r
def Z8B(K:Frag)(is:Ab Itm):TA:=λσ H Q=>∃P env F ds,Same P H/\EnvS K P H σ env F/\iI is env=some ds /\
 ∀vs H' fp,Same H H'->Reps K true H' ds vs fp->fp.Nodup->(∀b∈fp,P b=none/\(H b=none\/∃i∈ownOf is,∃d,env[i]?=some (some (true,d))/\b∈F i))->Q vs H'
def QIt(X:Cx)(es:Ab Ag)(is:Ab Itm):Prop:=PA X es (Z8B X.K is)
def Z6P:QIt X [] []:=λpos pins s σ H Q I ⟨P,env,F,ds,sm,hF,e,q⟩=>L2.pa_nil pos pins s σ H Q I (by
 cases e;exact q [] H [] (Same.refl H) (by simp only[Reps];exact⟨trivial,trivial⟩) Qaz (λb hb=>(by cases hb)))
def L4(i:Nat)(A:QIt X es is)(t:i∉ownOf is:=by simp[PD.ownOf])(M:X.N[i]?=some x:=by rfl)(K:Vis X.env.scope x:=by first|exact Or.inl rfl|exact Or.inr (Or.inl rfl)|exact Or.inr (Or.inr rfl))(hd:nDb x:=by decide)(n:(x==("__classdict__" : Str))=false:=by decide)
  (h1:starEach (.Name x p::es) X.env=(false,eval (.Name x p) X.env)::starEach es X.env:=by rfl):QIt X (.Name x p::es) (.inl i::is) :=
 λpos pins s σ H Q I ⟨P,env,F,ds,sm,hF,e,q⟩=>L2.pa_cons (kH M K hd n) A h1 pos pins s σ H Q I (by
  unfold iI at e;split at e
  .rename_i d u f O;cases e;obtain⟨v,h,_⟩:=hF.ok i true d f;obtain⟨J,L,G,B⟩:=hF.own i d f;refine⟨v,h,P,env,F,u,sm,hF,O,λvs H' fp s r nd hb=>?_⟩;refine q (v::vs) H' (F i++fp) s ?_ (Qar.mpr ⟨J,nd,λb hb1 b' hb2 z=>?_⟩) (λb hb'=>?_)
   .simp only[Reps];exact⟨v,vs,F i,fp,rfl,rfl,(G v h).same s,r⟩
   .rw[<- z]at hb2;rcases (hb b hb2).2 with y|⟨k,l,d',j,a⟩
    .obtain⟨o,w⟩:=hF.dom f b hb1;rw[y]at w;cases w
    .exact B k _ (λz=>t (z ▸ l)) j b hb1 a
   .rcases Qah.mp hb' with z|z
    .exact⟨L b z,.inr ⟨i,by simp[ownOf],d,f,z⟩⟩
    .obtain⟨E,C⟩:=hb b z;exact⟨E,C.imp id λ⟨k,l,d',j,a⟩=>⟨k,by simp[ownOf,l],d',j,a⟩⟩
  .cases e)
def Z6Q(he:QE X true [] e f)(p:QIt X es is)(h1:sEa e es X.env:=by rfl):QIt X (e::es) (.inr f::is) :=
 λpos pins s σ H Q I ⟨P,env,F,ds,sm,hF,e',q⟩=>L2.pa_cons he p h1 pos pins s σ H Q I (by
  unfold iI at e';split at e'
  .rename_i d l w A;cases e';refine⟨env,F,d,hF.ok,w,λv H1 fp1 s1 r1 c1=>⟨P,env,F,l,sm.trans s1,hF.grow s1,A,λvs H' fp s r nd hb=>?_⟩⟩;obtain⟨x,j⟩:=c1.2 rfl;refine q (v::vs) H' (fp1++fp) (s1.trans s) ?_ (Qar.mpr ⟨x,nd,λb hb1 b' hb2 z=>?_⟩) (λb hb'=>?_)
   .simp only[Reps];exact⟨v,vs,fp1,fp,rfl,rfl,r1.same s,r⟩
   .rw[<- z]at hb2;rcases (hb b hb2).2 with y|⟨k,n,d',i,h⟩
    .obtain⟨o,a⟩:=Rep.dom _ _ _ r1 b hb1;rw[y]at a;cases a
    .obtain⟨o,a⟩:=hF.dom i b h;rw[j b hb1]at a;cases a
   .rcases Qah.mp hb' with z|z
    .exact⟨sm.free (j b z),.inl (j b z)⟩
    .obtain⟨u,t⟩:=hb b z;refine⟨u,?_⟩;rcases t with y|y
     .exact .inl (s1.free y)
     .obtain⟨k,n,d',i,h⟩:=y;exact .inr ⟨k,by simpa[ownOf]using n,d',i,h⟩
  .cases e')
def T3(is:Ab Itm):En->Res:=λenv=>match iI is env with
 |some ds=>if ds.length<=1000 then .ret (.tup ds) else .bad
 |none=>.bad
def Z6M(h:QIt X es is):QS X (.Return (some (.Tuple es k1 p3)) pos) (T3 is):=.mk (jH (L2.pe_tup h)) λE σ H ⟨P,env,I,q⟩=>by
 obtain⟨F,hF⟩:=I.ex;unfold T3 at q;split at q
 .rename_i ds a;split at q
  .rename_i f;refine⟨P,env,F,ds,I.same,hF,a,λvs H' fp s r nd hb=>⟨by rw[r.length];exact Nat.le_of_lt (lW f),λq' hq=>?_⟩⟩;exact q _ _ fp ((I.same.trans s).trans (cJ hq)) (tL hq r) (λb hb'=>(hb b hb').1) nd
  .exact q.elim
 .exact q.elim
end PD
namespace HT
open PySem PyProof.Rows
def getItem_tuple_all{lo hi:Aa Int}(a:IsTup s.heap t items)(hs:s.heap.IsSliceOf sl vl vu .none)(pl:IsPart vl lo)(l:IsPart vu hi)
  (h1:sIx items.size 0 lo=0) (h2:sIx items.size items.size hi=items.size) (h:Q (.ref t) s):wpAny (model prog w) A (getItem (.ref t) (.ref sl)) Q E s:=by
 obtain⟨os,f,j,n⟩:=id hs;have i:s.TypeIs (.ref sl) "slice":=⟨os,f,j⟩;unfold getItem
 try with_reducible refine Rf ?_
 first|refine Ra (Rb ?_)|skip
 refine Ra (wpAny_sequenceKey a.typeIs (by decide) ?_);refine Ra (wpAny_callSpecial?_slot (name:=Str.ofString "__getitem__") a.typeIs PyProof.Rows.slot_tuple_getitem
  (Rg PyProof.Rows.slot_tuple_getitem a.typeIs entry_tuple_getitem ?_ (args_tuple_getitem _ _)))
 show wpAny _ _ (Builtin.Tuple.tupleItemsOf (.ref t) >>= _) _ _ s;refine Ra (tupleItemsOf_ a ?_);refine Ra (wpAny_typeOf i ?_);rw[if_pos (by decide)];refine Ra (lX hs pl l ?_);have b:(((sIx items.size 0 lo:Nat):Int)==0&&(1:Int)==1&&(sIx items.size items.size hi-sIx items.size 0 lo)==items.size)=true:=by
  rw[h1,h2];simp
 show wpAny _ _ (if (((sIx items.size 0 lo:Nat):Int)==0&&(1:Int)==1&&(sIx items.size items.size hi-sIx items.size 0 lo)==items.size)=true then _ else _) _ _ s;rw[if_pos b];refine Ra ?_;unfold Builtin.Tuple.tupleIsExact;refine Ra (wpAny_typeOf a.typeIs (Rb ?_));show wpAny _ _ (if (Value.type "tuple" == Value.type "tuple")=true then _ else _) _ _ s;rw[if_pos (by decide)];exact Ra (wpAny_rule (Rb ⟨_,rfl,Rb h⟩))
end HT
namespace PD
open PySem PySem.Spec PyProof.Rows L2
theorem Reps.rev{K:Frag}{st:Bool}:∀{ds:Ab D}{vs:Ab V},Reps K st H ds vs []->Reps K st H ds.reverse vs.reverse []
 |[],vs,h=>by
  simp only[Reps]at h;obtain⟨rfl,_⟩:=h;simp only[List.reverse_nil,Reps];exact⟨trivial,trivial⟩
 |d::ds,vs,h=>by
  simp only[Reps]at h;obtain⟨v,us,f1,f,rfl,e,b,a⟩:=h;obtain⟨rfl,rfl⟩:=List.append_eq_nil_iff.mp e.symm;have:=Reps.snoc (Reps.rev a) b;simpa using this
def Za2(K:Frag):V->Aa Int->Aa Int->Hp->VK->Prop:=λx lo hi H Q=>∃a xs,x=.ref a/\SqT K H a xs/\HT.sIx xs.length 0 lo=0/\HT.sIx xs.length xs.length hi=xs.length/\Q (.ref a) H
def Z6i:SlR X (Za2 X.K):=by
 intro pins s σ H x v p n lo hi o Q I j hs pl i h;obtain⟨a,xs,rfl,l,h1,h2,q⟩:=h;cases j;obtain⟨its,r,f,t⟩:=I.tuple l;have b:its.toArray.size=xs.length:=by rw[Qao];exact r.length.symm
 refine⟨"tuple",_,PyProof.Rows.slot_tuple_getitem.lookup,f.typeIs,?_⟩;exact HT.getItem_tuple_all f hs pl i (by rw[b];exact h1) (by rw[b];exact h2) ⟨.ref a,H,I,rfl,q⟩
def Z0Z(fa:En->Aa D)(fl fh:En->Aa (Aa Int)):En->Aa D:=λenv=>match fa env,fl env,fh env with
 |some (.tup ds),some lo,some hi=>if flats ds=true then some (.tup (cutD ds lo hi)) else none
 |_,_,_=>none
def Z12{lo hi:Aa Int}(h1:HT.sIx ds.length 0 lo=0)(h2:HT.sIx ds.length ds.length hi=ds.length):cutD ds lo hi=ds:=by
 unfold cutD;rw[h1,h2];simp
def B3{lo hi:Aa Ag}(t:QE X m1 rs1 a fa)(w:QO X lo fl)(o:QO X hi fh):QE X m rs (.Subscript a (.Slice lo hi none p2) pos) (Z0Z fa fl fh) :=
 .mk (L2.pe_slice (SlR.or Z3X Z6i) t w o) λσ H Q ⟨env,F,d,ok,e,q⟩=>by
  unfold Z0Z at e;split at e
  .rename_i ds l h h1 h2 h3;split at e
   .rename_i n;cases e;refine⟨env,F,_,ok,h1,λv H1 f1 s1 r1 c1=>⟨env,F,l,ok.same s1,h2,λH2 s2=>⟨env,F,h,ok.same (s1.trans s2),h3,λH3 s3=>?_⟩⟩⟩;have f:=r1.same (s2.trans s3);have x:=f;simp only[Rep]at f;obtain⟨p,vs,rfl,j,i⟩:=f;by_cases hw:HT.sIx ds.length 0 l=0/\HT.sIx ds.length ds.length h=ds.length
    .right;refine⟨p,vs,rfl,j,by rw[i.length];exact hw.1,by rw[i.length];exact hw.2,?_⟩;rw[Z12 hw.1 hw.2]at q;exact q _ _ [] ((s1.trans s2).trans s3) ((Rep.flat _ _ _ (by simpa only [PD.flat]using n) x).2 m) .nil
    .left;refine⟨p,vs,rfl,j,by rw[i.length];exact hw,λp' hp=>?_⟩;obtain⟨A,r⟩:=Reps.flat _ _ _ n i;obtain⟨f',y,u⟩:=Reps.cut (r m) l h;obtain rfl:f'=[]:=List.eq_nil_iff_forall_not_mem.mpr λb hb=>(by cases u b hb);exact q _ _ [] (((s1.trans s2).trans s3).trans (cJ hp)) (tL hp y) .nil
   .cases e
  .cases e
def Z4I(he:PE X e te):PE X (.Subscript e (.Slice none none (some (.UnaryOp .USub (.Constant (.int 1) k pp) p3)) p2) pos)
  (λσ H Q=>te σ H λx H1=>∃a xs,x=.ref a/\SqL X.K H1 a xs/\∀p,H1 p=none->Q (.ref p) (upd H1 p (.lst xs.reverse))):=by
 intro pins s σ H Q I h;refine Subscript_ (thn (he pins s σ H _ I h) λv s1 ⟨x,H1,I1,r1,a,xs,ex,hx,q⟩=>?_);subst ex;cases r1;refine wpAny_Slice ?_;rw[evalPart_none];refine Rb (Rb ?_);refine thn ((L2.pe_un (pos:=p3) Z02 (L2.pe_int (i:=1) (j:=k) (pos:=pp))) pins s1 σ H1 (λv f=>v=.int (-1)/\f=H1) I1 ⟨1,rfl,rfl,rfl⟩) λst s2 h2=>?_;obtain⟨z,f,y,C,rfl,rfl⟩:=h2;obtain⟨t,rfl⟩:=C;have l:Inv X pins σ f { s2 with heap:=s2.heap.push { cls:=.type "slice",data:=.fields #[.none,.none,.int (-1) t] } }:=y.kept (t':=s2.toks) λb ob q=>Qag _ q;obtain⟨its,r,n,u⟩:=l.list hx;have B:=r.length;show wpAny (model X.prog X.w) X.A (subscriptTail e (.Slice none none (some (.UnaryOp .USub (.Constant (.int 1) k pp) p3)) p2) (.ref a) (.ref s2.heap.objs.size)) (EP X pins σ Q) X.xe { s2 with heap:=s2.heap.push { cls:=.type "slice",data:=.fields #[.none,.none,.int (-1) t] } };refine tail_any (ops:=[.ref a,.ref s2.heap.objs.size]) n.isList.typeIs slot_list_getitem.lookup ?_ (by with_unfolding_all rfl);refine wpAny_getItem_list_slice n.isList (Heap.IsSliceOf.new ..) .none .none (.int _ _) (by simp) ?_ (by rw[Qao]<;>omega);rw[PySem.W.krv_pick];refine⟨.ref (s2.heap.push { cls:=.type "slice",data:=.fields #[.none,.none,.int (-1) t] }).objs.size,_,l.laid (t':=s2.toks) (o:=.lst xs.reverse) (λb ob q=>Qag _ q) (Qap _) ?_,rfl,q _ (l.hok.fresh (Qap _))⟩;exact⟨by rw[List.length_reverse];exact u,_,0,r.reverse,Qax _ rfl⟩
def O1(fa:En->Aa D):En->Aa D:=λenv=>match fa env with
 |some (.lst ds)=>if flats ds=true then some (.lst ds.reverse) else none
 |_=>none
def Z4v(i:QE X m1 rs1 a fa):QE X m rs (.Subscript a (.Slice none none (some (.UnaryOp .USub (.Constant (.int 1) k pp) p3)) p2) pos) (O1 fa) :=
 .mk (Z4I i) λσ H Q ⟨env,F,d,ok,e,q⟩=>by
  unfold O1 at e;split at e
  .rename_i ds h1;split at e
   .rename_i j;cases e;refine⟨env,F,_,ok,h1,λv H1 f1 s1 r1 c1=>?_⟩;obtain⟨p,vs,n,rfl,f,h,l⟩:=cC r1;refine⟨p,vs,rfl,f,λp' hp=>?_⟩;obtain⟨o,b⟩:=Reps.flat _ _ _ j h;exact q _ _ [p'] (s1.trans (cJ hp)) (mR hp (Reps.rev (b m))) (oK (m:=m) (K:=X.K) s1 hp (Reps.rev (b m)) .nil)
   .cases e
  .cases e
def Za6(K:Frag):R2:=λx y H Q=>∃l b xs zs,x=.ref l/\y=.ref b/\SqL K H l xs/\SqL K H b zs/\xs.length+zs.length<=sizeLine/\∀p,H p=none->Q (.ref p) (upd H p (.lst (xs++zs)))
def Z7d:OpR X (binaryOp .Add) (Za6 X.K):=by
 intro pins s σ H x y v u Q I E B h;obtain⟨l,b,xs,P,rfl,rfl,C,L,R,q⟩:=h;cases E;cases B;obtain⟨its,r,⟨⟨S,N,t1,j⟩,J,t,k1,k2,k3⟩,O⟩:=I.list C;obtain⟨a,n,⟨⟨U,T,t2,w⟩,A,o,p,f,i⟩,M⟩:=I.list L;simp only at k1 k2 k3 p f i;subst k1 k2 k3 p f i;have l1:=r.length;have l2:=n.length;refine concat_meets ⟨_,t,rfl⟩ ⟨_,o,rfl⟩ noFill_list_add seq_list_add PySem.F.slot_list_add PySem.F.entry_list_add (PySem.F.args_list_add_2 _ _) (list_addW l b its.toArray a.toArray J A none none j w (by rw[Qao,Qao];omega)) ⟨t,o,?_⟩;have G:its.toArray++a.toArray=(its++a).toArray:=by simp
 rw[G];exact⟨.ref _,_,I.lnew (t':=s.toks) (r.append n) (by rw[Qav];omega),rfl,q _ I.fresh⟩
def oJ(fa fb:En->Aa D):En->Aa D:=λenv=>match fa env,fb env with
 |some (.lst xs),some (.lst ys)=>if (flats xs=true/\flats ys=true)/\xs.length+ys.length<=1000 then some (.lst (xs++ys)) else none
 |_,_=>none
def rG(A:QE X m1 rs1 a fa)(B:QE X m2 rs2 b fb):QE X m rs (.BinOp a .Add b pos) (oJ fa fb) :=
 .mk (L2.pe_op Z7d A B) λσ H Q ⟨env,F,d,ok,e,q⟩=>by
  unfold oJ at e;split at e
  .rename_i xs ys h1 h2;split at e
   .rename_i i;cases e;refine two ok h1 h2 λv u H' f1 f2 s r1 r2 _ _=>?_;obtain⟨p,vs,C,rfl,n,l,x⟩:=cC r1;obtain⟨t,us,y,rfl,h,f,o⟩:=cC r2;obtain⟨_,r⟩:=Reps.flat _ _ _ i.1.1 l;obtain⟨_,w⟩:=Reps.flat _ _ _ i.1.2 f;have j:=(r m).append (w m);refine⟨p,t,vs,us,rfl,rfl,n,h,lC (by rw[l.length,f.length];exact i.2),λp2 hp=>?_⟩;exact q _ _ [p2] (s.trans (cJ hp)) (mR hp j) (oK (m:=m) (K:=X.K) s hp j .nil)
   .cases e
  .cases e
@[simp] def ev_var:aD i env=(env[i]?).join.map (·.2):=(rfl)
@[simp] def ev_C:fC d env=some d:=(rfl)
def Zay{C:Int->Int->Prop}{g:Int->Int->D}{i j:Int}(a:fa env=some (.int i))(b:fb env=some (.int j))(hc:C i j):fI2 C g fa fb env=some (g i j):=by simp[fI2,a,b,hc]
def Z8o{g:Int->Int->D}{i j:Int}(a:fa env=some (.int i))(b:fb env=some (.int j)):fI0 g fa fb env=some (g i j):=by simp[fI0,a,b]
@[simp] def ev_Flat:aZ f env=match f env with|some d=>if flat d=true then some d else none|none=>none:=(rfl)
@[simp] def ev_B:fB f env=match f env with|some (.bl b)=>some b|_=>none:=(rfl)
@[simp] def ev_OfB:kR b env=(b env).map .bl:=(rfl)
@[simp] def ev_And:iJ b c env=match b env with|some true=>c env|some false=>some false|none=>none:=(rfl)
@[simp] def ev_Or:fOr b c env=match b env with|some false=>c env|some true=>some true|none=>none:=(rfl)
@[simp] def ev_Not:kT b env=(b env).map (!·):=(rfl)
@[simp] def ev_If{α:Type}{c:En->Aa Bool}{f g:En->Aa α}:fIf c f g env=match c env with|some true=>f env|some false=>g env|none=>none:=(rfl)
@[simp] def ev_Nil:aF env=some []:=(rfl)
@[simp] def ev_Cons:aA f fs env=match f env,fs env with|some d,some ds=>some (d::ds)|_,_=>none:=(rfl)
@[simp] def ev_Tup:fT fs env=match fs env with|some ds=>if ds.length<=1000 then some (.tup ds) else none|none=>none:=(rfl)
@[simp] def ev_Lst:cW fs env=match fs env with|some ds=>if ds.length<=1000 then some (.lst ds) else none|none=>none:=(rfl)
@[simp] def ev_BI:fBI p fa fb env=match fa env,fb env with|some (.int i),some (.int j)=>some (p i j)|_,_=>none:=(rfl)
@[simp] def ev_IsN:oH neg fa env=match fa env with|some .non=>some (!neg)|some _=>some neg|none=>none:=(rfl)
@[simp] def ev_Eq:fEq fa fb env=match fa env,fb env with|some x,some y=>eqN 8 x y|_,_=>none:=(rfl)
@[simp] def ev_Ix : fIx fa fb env=match fa env, fb env with
 |some (.lst ds),some (.int i)=>atI ds i
 |some (.tup ds),some (.int i)=>atI ds i
 |some (.str z),some (.int i)=>if z.length<=1000 then(atI z.cps.toList i).map λc=>.str ⟨#[c]⟩ else none
 |_,_=>none:=(rfl)
@[simp] def ev_I2'{C : Int->Int->Prop}{g : Int->Int->D} : fI2 C g fa fb env=match fa env, fb env with
 |some (.int i),some (.int j)=>open Classical in if C i j then some (g i j) else none
 |_,_=>none:=(rfl)
@[simp] def ev_I0'{g : Int->Int->D} : fI0 g fa fb env=match fa env, fb env with
 |some (.int i),some (.int j)=>some (g i j)
 |_,_=>none:=(rfl)
@[simp] def ev_Call:aJ F' dds fs env=match fs env with|some xs=>F' (xs++dds)|none=>none:=by unfold aJ;cases fs env<;>rfl
@[simp] def ev_B1:fB1 F' fs env=match fs env with|some xs=>F' xs|none=>none:=by unfold fB1;cases fs env<;>rfl
@[simp] def ev_NoP:fE env=some none:=(rfl)
@[simp] def ev_P:fP f env=match f env with|some (.int i)=>some (some i)|_=>none:=(rfl)
@[simp] def ev_seq:fZ fa env=match fa env with|some (.lst ds)=>some ds|some (.tup ds)=>some ds|_=>none:=(rfl)
@[simp] def ev_TT:fTT env=some true:=(rfl)
@[simp] def ev_cat:vO fa fb env=match fa env,fb env with|some (.lst a),some (.lst b)=>if a.length+b.length<=1000 then some (.lst (a++b)) else none|_,_=>none:=(rfl)
def ev_Sl:fSl fa fl fh env=match fa env,fl env,fh env with
 |some (.lst ds),some lo,some hi=>if flats ds=true then some (.lst (cutD ds lo hi)) else none
 |some (.tup ds),some lo,some hi=>if flats ds=true/\¬(HT.sIx ds.length 0 lo=0/\HT.sIx ds.length ds.length hi=ds.length) then some (.tup (cutD ds lo hi)) else none
 |_,_,_=>none:=(rfl)
def ev_In:fIn fa fb env=match fa env,fb env with|some x,some y=>inF x y|_,_=>none:=(rfl)
def ev_catS:D8 fa fb env=match fa env,fb env with|some (.str x),some (.str y)=>if x.length+y.length<=5000 then some (.str (x++y)) else none|_,_=>none:=(rfl)
def ev_join:nB fa fb env=match fa env,fb env with
 |some (.str x),some (.lst ds)=>match pP ds with
  |some ys=>if (ys.map (·.length)).sum+ys.length*x.length<=1000000 then some (.str (Txt.join x ys)) else none
  |none=>none
 |_,_=>none:=(rfl)
def ev_split:mZ fa fb env=match fa env,fb env with
 |some (.str x),some (.str y)=>if (y.length==0)=false/\x.length<=5000/\(jD x y).length<=1000 then some (.lst ((jD x y).map .str)) else none
 |_,_=>none:=(rfl)
def ev_seqS:X6 fa env=match fa env with|some (.str x)=>if x.cps.all (· < 128)=true then some (sR x) else none|_=>none:=(rfl)
def ev_Idx:Z7Q fa fb env=match fa env,fb env with
 |some (.lst ys),some x=>if ys.length<=1000 then(Z5X x ys).map λj=>.int (j:Nat) else none
 |_,_=>none:=(rfl)
def ev_SlW:Z0Z fa fl fh env=match fa env,fl env,fh env with
 |some (.tup ds),some lo,some hi=>if flats ds=true then some (.tup (cutD ds lo hi)) else none
 |_,_,_=>none:=(rfl)
def ev_RevSl:O1 fa env=match fa env with|some (.lst ds)=>if flats ds=true then some (.lst ds.reverse) else none|_=>none:=(rfl)
def ev_CatF:oJ fa fb env=match fa env,fb env with|some (.lst a),some (.lst b)=>if (flats a=true/\flats b=true)/\a.length+b.length<=1000 then some (.lst (a++b)) else none|_,_=>none:=(rfl)
def ev_Neg:Z7P fa env=match fa env with|some (.int i)=>some (.int (-i))|_=>none:=(rfl)
def ev_Bits:X7 fa env=match fa env with|some (.int i)=>some (.int ((Builtin.Int.intBits i:Nat):Int))|_=>none:=(rfl)
@[simp] def ev_rNext:aX env=.next env:=(rfl)
@[simp] def ev_rIf:rIf c g h env=match c env with|some true=>g env|some false=>h env|none=>.bad:=(rfl)
@[simp] def ev_rRet:bA f env=match f env with|some d=>.ret d|none=>.bad:=(rfl)
@[simp] def ev_rSet:aW i f env=match f env with|some d=>.next (env.set i (some (true,d)))|none=>.bad:=(rfl)
@[simp] def ev_rSeq:aL g h env=match g env with | .next env'=>h env'|r=>r:=(rfl)
def LI(xs:Ab Int):D:=.lst (xs.map .int)
def eqN_int(n:Nat)(a b:Int):eqN (n+1) (.int a) (.int b)=some (decide (a=b)):=by simp only[eqN];congr
def eqN_str(n:Nat)(a b:Str):eqN (n+1) (.str a) (.str b)=some (a==b):=by simp only[eqN]
def eqN_bl(n:Nat)(a b:Bool):eqN (n+1) (.bl a) (.bl b)=some (a==b):=by simp only[eqN]
def eqN_non:eqN (n+1) .non .non=some true:=by simp only[eqN]
def eqN_tnon:eqN (n+1) (.tup xs) .non=some false:=by simp only[eqN]
def eqN_tup(n:Nat)(xs ys:Ab D):eqN (n+1) (.tup xs) (.tup ys)=(eqL (eqN n) xs ys).map (· && xs.length==ys.length):=by simp only[eqN]
def eqL_cons:eqL f (x::xs) (y::ys)=match f x y,eqL f xs ys with|some a,some b=>some (a&&b)|_,_=>none:=by rw[eqL];try (cases f x y<;>cases eqL f xs ys<;>rfl)
def eqL_nil:eqL f [] ys=some true:=by simp only[eqL]
def eqL_nilL:eqL f xs []=some true:=by cases xs<;>simp only[eqL]
def atI_m3(x y z:α):atI [x,y,z] (-1)=some z:=rfl
def atI_m4(x y z w:α):atI [x,y,z,w] (-1)=some w:=rfl
def atI_0(x:α)(xs:Ab α):atI (x::xs) 0=some x:=lM (j:=0) rfl
def atI_1(x y:α)(xs:Ab α):atI (x::y::xs) 1=some y:=lM (j:=1) rfl
def atI_2(x y z:α)(xs:Ab α):atI (x::y::z::xs) 2=some z:=lM (j:=2) rfl
def atI_3(x y z w:α)(xs:Ab α):atI (x::y::z::w::xs) 3=some w:=lM (j:=3) rfl
def lE(h:-(2^64)<a)(h2:a<2^64):IntMulOk a b:=.of_left (PySem.intBits_le_64 h h2)
def oZ(h:-(2^64)<b)(h2:b<2^64):IntMulOk a b:=.of_right (PySem.intBits_le_64 h h2)
def Z0l(n:Nat):HT.sIx (n+1) 0 (some 1)=1:=by
 have:=HT.sIx_nat (n+1) 0 1;simpa using this
def Z3b(x:D)(xs:Ab D):PD.cutD (x::xs) (some 1) none=xs:=by
 unfold PD.cutD;rw[Qaf,Z0l,HT.sIx_none];simp
def kU(xs:Ab D)(n:Nat):PD.cutD xs none (some (n:Int))=xs.take n:=by
 unfold PD.cutD;rw[HT.sIx_nat,HT.sIx_none];simp only[List.drop_zero,Nat.sub_zero];by_cases h:n<=xs.length
 .rw[Nat.min_eq_left h]
 .rw[Nat.min_eq_right (by omega),QaW,Qbf (by omega)]
def nth(vs:Ab Int)(a:Int):Int:=vs.getD a.toNat 0
def gP{vs:Ab Int}{a:Int}(f:0<=a)(h1:a<vs.length):atI (vs.map D.int) a=some (.int (nth vs a)):=by
 have e:atI (vs.map D.int) ((a.toNat:Nat):Int)=some (.int (nth vs a)):=by
  refine lM ?_;have b:a.toNat<vs.length:=by omega
  simp[nth,List.getD,b]
 rwa [Int.toNat_of_nonneg f]at e
def dC(xs:Ab Int):flats (xs.map D.int)=true:=uF λd hd=>by
 obtain⟨i,_,rfl⟩:=QaL.mp hd;rfl
def Z57{n:Nat}{l:Int}(a:0<=l)(h1:l<n):ixN n l=some l.toNat:=by simp[ixN,a,h1]
def bS(h:g (enStart L ds)=.ret d):runF L g ds=some d:=by unfold runF;rw[h]
def Q8(e:g env=.next env')(q:h env'=r):aL g h env=r:=by unfold aL;rw[e];exact q
def X5(h:f env=some (.lst ds)):fZ f env=some ds:=by unfold fZ;rw[h]
def mB(h:f env=some d)(q:k (env.set i (some (true,d)))=r):aL (aW i f) k env=r:=by unfold aL aW;rw[h];exact q
def Z0m(e:c env=some true)(q:aL g k env=r):aL (rIf c g h) k env=r:=by
 unfold aL rIf at *;rw[e];exact q
def sNo(e:c env=some false)(q:k env=r):aL (rIf c g aX) k env=r:=by
 unfold aL rIf;rw[e];exact q
def wV(h:f env=some d):aL (bA f) k env=.ret d:=by unfold aL bA;rw[h]
def cR(h:f env=some d):bA f env=.ret d:=by unfold bA;rw[h]
def Z1w(h:f env=some d):aW i f env=.next (env.set i (some (true,d))):=by unfold aW;rw[h]
def Z8P(e:c env=some true)(q:g env=r):rIf c g h env=r:=by unfold rIf;rw[e];exact q
def Z6D(e:c env=some false)(q:h env=r):rIf c g h env=r:=by unfold rIf;rw[e];exact q
def jR(h:f env=some d)(e:env[i]?=some (some (true,.lst ds)))(a:ds.length<=1000):iA i f env=.next (env.set i (some (true,.lst (ds++[d])))):=by unfold iA;rw[h,e];simp[a]
theorem X2{g k:En->Res}(I:Nat->En->Prop):∀(ds:Ab D) (n:Nat) (env:En),(∀i d env,ds[i]?=some d->I (n+i) env->∃env1,t d env=some env1/\((∃env2,(g env1=.next env2\/g env1=.cont env2)/\I (n+i+1) env2)\/(∃d',g env1=.ret d'/\r=.ret d')\/(∃env2,g env1=.brk env2/\k env2=r)))->I n env ->
  (∀env',I (n+ds.length) env'->k env'=r)->(match pI t g ds env with | .next e=>k e|r=>r)=r
 |[],n,env,_,h,q=>by simpa[pI]using q env (by simpa using h)
 |d::ds,n,env,st,h,q=>by
  obtain⟨env1,h1,h2⟩:=st 0 d env rfl h;unfold pI;rw[h1];rcases h2 with⟨env2,h3,h4⟩|⟨d',h3,rfl⟩|⟨env2,h3,h4⟩
  .have ih:=X2 (k:=k) (r:=r) I ds (n+1) env2 (λi d' e hd hI=>by
    have:=st (i+1) d' e (by simpa using hd) (by rwa [show n+(i+1)=n+1+i by omega])
    rwa [show n+(i+1)+1=n+1+i+1 by omega]at this) h4 (λe he=>q e (by rwa [Qaf,show n+(ds.length+1)=n+1+ds.length by omega]))
   rcases h3 with h3|h3<;>(simp only[h3];exact ih)
  .simp only[h3]
  .simp only[h3];exact h4
def Z6u(hs:src env=some ds)(I:Nat->En->Prop)(b:I 0 (fz rs env))
  (st:∀i d env,ds[i]?=some d->I i env->∃env1,t d env=some env1/\((∃env2,(g env1=.next env2\/g env1=.cont env2)/\I (i+1) env2)\/(∃d',g env1=.ret d'/\r=.ret d')\/(∃env2,g env1=.brk env2/\k env2=r)))
  (a:∀env',I ds.length env'->k env'=r):aL (iY rs src t g) k env=r:=by
 unfold aL iY;rw[hs];exact X2 I ds 0 _ (λi d e hd hI=>by rw[Qbh]at *;exact st i d e hd hI) b (λe he=>a e (by rwa [Qbh]at he))
def qV(hs:src env=some ds)(I:Nat->En->Prop)(h:I 0 (fz rs env))
  (st:∀i d env,ds[i]?=some d->I i env->∃env1 env2,t d env=some env1/\g env1=.next env2/\I (i+1) env2)
  (f:∀env',I ds.length env'->k env'=r):aL (iY rs src t g) k env=r :=
 Z6u hs I h (λi d e hd hI=>let ⟨e1,e2,a,b,c⟩:=st i d e hd hI;⟨e1,a,.inl ⟨e2,.inl b,c⟩⟩) f
theorem uI(a:α->D)(b:α->D):∀(xs:Ab α),(∀x∈xs,fe (some (false,a x)::env)=some (b x))->eO fTT fe env (xs.map a)=some (xs.map b)
 |[],_=>rfl
 |x::xs,h=>by
  have h1:=h x Qai;have f:=uI a b xs λy hy=>h y (Qaa _ hy);simp only[Qat,eO,fTT,h1];rw[f]
def cO(a:α->D)(b:α->D){xs:Ab α}(hs:src env=some (xs.map a))(f:xs.length<=1000)(h:∀x∈xs,fe (some (false,a x)::vP fr env)=some (b x)) :
  cT fr src fTT fe env=some (.lst (xs.map b)):=by
 unfold cT;rw[hs];simp only[Qab,f,Rl];rw[uI a b xs h];rfl
def aP(h:fs env=some xs)(q:F' (xs++dds)=r):aJ F' dds fs env=r:=by unfold aJ;rw[h];exact q
def gU(h:fs env=some xs)(q:F' xs=r):sB1 F' fs env=r:=by unfold sB1;rw[h];exact q
def cN(h:fs env=some xs)(q:F' xs=r):fB1 F' fs env=r:=by unfold fB1;rw[h];exact q
def aI(h:f env=some d)(q:fs env=some ds):aA f fs env=some (d::ds):=by unfold aA;rw[h,q]
def Zb0(a:0<=j)(h1:j<=1000):fU [.int j]=some ((List.range j.toNat).map λ(k:Nat)=>.int (0+(k:Int))):=by
 simp only[fU];rw[if_pos (by omega)]
def wX{n:Nat}(h1:n<=1000):fU [.int (n:Int)]=some ((List.range n).map λ(k:Nat)=>.int (k:Int)):=by
 rw[Zb0 (by omega) (by omega),QaJ];congr 1;apply List.map_congr_left;intro a _;congr 1;omega
def Z4i{j:Int}{n:Nat}(e:j=(n:Int))(h:n<=1000):fU [.int j]=some ((List.range n).map λ(k:Nat)=>.int (k:Int)):=by
 rw[e];exact wX h
def gJ{l:Ab α}(h:l[i]?=some x):l.take (i+1)=l.take i++[x]:=by
 obtain⟨hi,e⟩:=Qac.mp h;rw[Qbe,h];rfl
def iO{l:Ab α}{i:Nat}(h:(l.map f)[i]?=some y):∃x,l[i]?=some x/\y=f x:=by
 rw[QaD]at h;cases e:l[i]? with
 |none=>rw[e]at h;cases h
 |some x=>rw[e]at h;cases h;exact⟨x,rfl,rfl⟩
def gQ{y:D}(h:((List.range n).map f)[i]?=some y):i<n/\y=f i:=by
 obtain⟨x,h1,rfl⟩:=iO h;rw[List.getElem?_range]at h1
 .cases h1;have hi:i<n:=by
   by_cases z:i<n
   .exact z
   .rw[Qas (by simp;omega)]at h;cases h
  exact⟨hi,rfl⟩
 .by_cases z:i<n
  .exact z
  .rw[Qas (by simp;omega)]at h;cases h
def Z6k(n:Nat):(0:Int)<1*2^n:=by rw[Qa4];exact Int.pow_pos (by decide)
def rR(n:Nat):(2^n).log2=n:=by
 rw[Nat.log2_eq_iff (Nat.ne_of_gt (QaX n))];exact⟨Qap _,Nat.pow_lt_pow_right (by decide) (Nat.lt_succ_self n)⟩
def rZ(h:n<9000):dD i (1*2^n):=by
 refine⟨Z6k n,?_⟩;rw[Qa4,Int.natAbs_pow];show(2^n).log2<9000;rw[rR];exact h
def Wp(r:Res)(Q:Res->Prop):Prop:=Q r
def Rt(P:D->Prop):Res->Prop:=λr=>∃d,r=.ret d/\P d
section
variable {Q:Res->Prop}{env:En}{k g h:En->Res}{f:En->Aa D}{c:En->Aa Bool}{i:Nat}{d:D}{P:D->Prop}
def R9(w:Wp (g (enStart L ds)) (Rt P)):∃d,runF L g ds=some d/\P d:=by
 obtain⟨d,e,p⟩:=w;exact⟨d,bS e,p⟩
def hU(e:f env=some d)(q:Wp (k (env.set i (some (true,d)))) Q):Wp (aL (aW i f) k env) Q:=by unfold aL aW;rw[e];exact q
def Q2(e:f env=some d)(q:Q (.next (env.set i (some (true,d))))):Wp (aW i f env) Q:=by unfold aW;rw[e];exact q
def wI(e:c env=some true)(q:Wp (aL g k env) Q):Wp (aL (rIf c g h) k env) Q:=by unfold aL rIf at *;rw[e];exact q
def uM(e:c env=some true)(q:Wp (g env) Q):Wp (rIf c g h env) Q:=by unfold rIf at *;rw[e];exact q
def uN(e:c env=some false)(q:Wp (h env) Q):Wp (rIf c g h env) Q:=by unfold rIf at *;rw[e];exact q
def wNo(e:c env=some false)(q:Wp (k env) Q):Wp (aL (rIf c g aX) k env) Q:=by unfold aL rIf;rw[e];exact q
def Z62(e:f env=some d)(q:Q (.ret d)):Wp (bA f env) Q:=by unfold bA;rw[e];exact q
def Z9F(e:f env=some d)(q:Q (.ret d)):Wp (aL (bA f) k env) Q:=by unfold aL bA;rw[e];exact q
def Z9H(q:Q (.next env)):Wp (aX env) Q:=q
def Z61(q:Wp (g env) λr=>match r with | .next e=>Wp (k e) Q|r=>Q r):Wp (aL g k env) Q:=by
 unfold aL Wp at *
 cases e:g env<;>rw[e]at q<;>simpa only [e]using q
def Z1h(h:f env=some d)(e:env[i]?=some (some (true,.lst ds)))(a:ds.length<=1000)(q:Q (.next (env.set i (some (true,.lst (ds++[d])))))):Wp (iA i f env) Q:=by
 rw[jR h e a];exact q
def Z9G{a:En->Aa D}{ds:Ab D}(h:f env=some d)(n:a env=some (.int j))(e:env[i]?=some (some (true,.lst ds)))(b:0<=j)(h1:j<ds.length)(l:flats ds=true)(hd:flat d=true)(q:Q (.next (env.set i (some (true,.lst (ds.set j.toNat d)))))):Wp (T5 i a f env) Q:=by
 unfold T5;simp only[h,n,e,Z57 b h1,l,hd];simpa[Wp]using q
def Z2a(M:En->Prop)(h1:Wp (g env) (λr=>∃e,r=.next e/\M e))(h2:∀e,M e->Wp (k e) Q):Wp (aL g k env) Q:=by
 obtain⟨e,h3,a⟩:=h1;unfold aL;rw[h3];exact h2 e a
def Z3I(e:env[i]?=some (some (true,d)))(q:Q (.ret d)):Wp (kC i env) Q:=by
 unfold kC;simp only[e];exact q
def S4(w:Wp (g (enStart L ds)) (λr=>r=.ret d)):runF L g ds=some d:=bS w
def Z3H(a:env[i]?=some (some (true,.lst xs)))(b:f env=some (.lst ys))(h1:flats xs=true)(h2:xs.length+ys.length<=1000)(q:Q (.next (env.set j (some (true,.lst (xs++ys)))))):Wp (iK j i f env) Q:=by
 unfold iK;simp only[a,b,h1,h2,and_self,Rl];exact q
def Tn(I:En->Prop)(k:En->Res)(Q:Res->Prop):Res->Prop
 | .next e=>I e
 | .cont e=>I e
 | .brk e=>Wp (k e) Q
 | .ret d=>Q (.ret d)
 | .bad=>False
theorem Z1W(I:Nat->En->Prop):∀(ds:Ab D) (n:Nat) (env:En),(∀i d env,ds[i]?=some d->I (n+i) env->∃env1,t d env=some env1/\Wp (g env1) (Tn (I (n+i+1)) k Q))->I n env ->
  (∀env',I (n+ds.length) env'->Wp (k env') Q)->Wp (match pI t g ds env with | .next e=>k e|r=>r) Q
 |[],n,env,_,h,q=>by simpa[pI]using q env (by simpa using h)
 |d::ds,n,env,st,h,q=>by
  obtain⟨env1,h1,h2⟩:=st 0 d env rfl h;unfold pI;rw[h1];have ih:∀env2,I (n+0+1) env2->Wp (match pI t g ds env2 with | .next e=>k e|r=>r) Q:=λenv2 h4=>Z1W I ds (n+1) env2 (λi d' e hd hI=>by
    have:=st (i+1) d' e (by simpa using hd) (by rwa [show n+(i+1)=n+1+i by omega])
    rwa [show n+(i+1)+1=n+1+i+1 by omega]at this) h4 (λe he=>q e (by rwa [Qaf,show n+(ds.length+1)=n+1+ds.length by omega]))
  unfold Wp at h2;cases e1:g env1 with
  |next e=>rw[e1]at h2;simp only[e1];exact ih e h2
  |cont e=>rw[e1]at h2;simp only[e1];exact ih e h2
  |brk e=>rw[e1]at h2;simp only[e1];exact h2
  |ret d'=>rw[e1]at h2;simp only[e1];exact h2
  |bad=>rw[e1]at h2;exact h2.elim
def Z9I(hs:src env=some ds)(I:Nat->En->Prop)(b:I 0 (fz rs env))
  (st:∀i d env,ds[i]?=some d->I i env->∃env1,t d env=some env1/\Wp (g env1) (Tn (I (i+1)) k Q))
  (a:∀env',I ds.length env'->Wp (k env') Q):Wp (aL (iY rs src t g) k env) Q:=by
 unfold aL iY;rw[hs];exact Z1W I ds 0 _ (λi d e hd hI=>by rw[Qbh]at *;exact st i d e hd hI) b (λe he=>a e (by rwa [Qbh]at he))
def Z1g(hs:src env=some ds)(I:Nat->En->Prop)(b:I 0 (fz rs env))
  (st:∀i d env (R:Res->Prop),ds[i]?=some d->I i env->(∀e,I (i+1) e->R (.next e))->∃env1,t d env=some env1/\Wp (g env1) R)
  (a:∀env',I ds.length env'->Wp (k env') Q):Wp (aL (iY rs src t g) k env) Q :=
 Z9I hs I b (λi d e hd hI=>st i d e _ hd hI λ_ z=>z) a
end
end PD
namespace G
open PySem PySem.Spec PyProof.Rows L2 PD
inductive Kd where|and|or|xor deriving DecidableEq
def Kd.s:Kd->Str | .and => "and" | .or => "or" | .xor => "xor"
inductive Row where|fix (b:Int)|not (a:Int)|bin (k:Kd) (a b:Int)
def Row.d:Row->D
 | .fix b=>.tup [.str "fix",.int b]
 | .not a=>.tup [.str "not",.int a]
 | .bin k a b=>.tup [.str k.s,.int a,.int b]
inductive Flt where|none|wire (w b:Int)|leg (w l b:Int)
def Flt.d:Flt->D
 | .none=>.non
 | .wire w b=>.tup [.str "wire",.int w,.int b]
 | .leg w l b=>.tup [.str "leg",.int w,.int l,.int b]
def Z43:((Str.ofString "wire")==(Str.ofString "leg"))=false:=by decide +kernel
def Z6p:((Str.ofString "leg")==(Str.ofString "wire"))=false:=by decide +kernel
def ZaW:((Str.ofString "wire")==(Str.ofString "wire"))=true:=by decide +kernel
def Za0:((Str.ofString "fix")==(Str.ofString "fix"))=true:=by decide +kernel
def Z6n:((Str.ofString "not")==(Str.ofString "fix"))=false:=by decide +kernel
def Z6s(k:Kd):(k.s==(Str.ofString "fix"))=false:=by cases k<;>decide +kernel
def Z9Y(k:Kd):(k.s==(Str.ofString "not"))=false:=by cases k<;>decide +kernel
def ZaX:((Str.ofString "not")==(Str.ofString "not"))=true:=by decide +kernel
def Z9Z(k:Kd):(k.s==(Str.ofString "and"))=decide (k=.and):=by cases k<;>decide +kernel
def Z9X(k:Kd):(k.s==(Str.ofString "or"))=decide (k=.or):=by cases k<;>decide +kernel
def ZaY:((Str.ofString "leg")==(Str.ofString "leg"))=true:=by decide +kernel
def Z5q(f:Flt):flat f.d=true:=by cases f<;>rfl
def bY(v w o:Int):Flt->Int
 | .wire w' b=>if w'=w then o*b else v
 |_=>v
def Row.ws:Row->Ab Int
 | .fix _=>[]
 | .not a=>[a]
 | .bin _ a b=>[a,b]
def legs(r:Row)(w:Int)(vs:Ab Int)(o:Int)(f:Flt):Ab Int:=match f with
 | .leg w' l b=>if w'=w then(r.ws.map (nth vs)).set l.toNat (o*b) else r.ws.map (nth vs)
 |_=>r.ws.map (nth vs)
def iG(r:Row)(ls:Ab Int)(o:Int):Int:=match r with
 | .fix b=>o*b
 | .not _=>Builtin.bitXor o (nth ls 0)
 | .bin .and _ _=>Builtin.bitAnd (nth ls 0) (nth ls 1)
 | .bin .or _ _=>Builtin.bitOr (nth ls 0) (nth ls 1)
 | .bin .xor _ _=>Builtin.bitXor (nth ls 0) (nth ls 1)
def bE(C:Af)(ins:Int)(rows:Ab Row)(outs:Ab Int):D:=.obj C ["ins","rows","outs"] [.int ins,.lst (rows.map Row.d),LI outs]
def yL(h:fa env=some (bE C ins rows outs)):fL C "rows" fa env=some (.lst (rows.map Row.d)):=by
 have h1:(Str.ofString "rows" == Str.ofString "ins")=false:=by decide +kernel
 simp[fL,h,bE,QaF,h1]
def pH(h:fa env=some (bE C ins rows outs)):fL C "ins" fa env=some (.int ins):=by
 simp[fL,h,bE,QaF]
def Z5r(h:fa env=some (bE C ins rows outs)):fL C "outs" fa env=some (LI outs):=by
 have h1:(Str.ofString "outs" == Str.ofString "ins")=false:=by decide +kernel
 have h2:(Str.ofString "outs" == Str.ofString "rows")=false:=by decide +kernel
 simp[fL,h,bE,QaF,h1,h2]
def cA(o:Int)(f:Flt):Ab Int->Ab Int->Ab Int
 |vs,[]=>vs
 |vs,s::r=>cA o f (vs++[bY s vs.length o f]) r
def eJ(o:Int)(f:Flt):Ab Int->Ab Row->Ab Int
 |vs,[]=>vs
 |vs,r::rs=>eJ o f (vs++[bY (iG r (legs r vs.length vs o f) o) vs.length o f]) rs
theorem fH(o:Int)(f:Flt):∀(ss vs:Ab Int),(cA o f vs ss).length=vs.length+ss.length
 |[],vs=>by simp[cA]
 |s::r,vs=>by simp only[cA];rw[fH o f r];simp;omega
theorem oR(o:Int)(f:Flt):∀(rs:Ab Row) (vs:Ab Int),(eJ o f vs rs).length=vs.length+rs.length
 |[],vs=>by simp[eJ]
 |r::rs,vs=>by simp only[eJ];rw[oR o f rs];simp;omega
theorem mK(o:Int)(f:Flt):∀(ss vs:Ab Int) (s:Int),cA o f vs (ss++[s])=cA o f vs ss++[bY s (cA o f vs ss).length o f]
 |[],vs,s=>by simp[cA]
 |a::ss,vs,s=>by simp only[Qa3,cA];rw[mK o f ss]
theorem qA(o:Int)(f:Flt):∀(rs:Ab Row) (vs:Ab Int) (r:Row),eJ o f vs (rs++[r])=eJ o f vs rs++[bY (iG r (legs r (eJ o f vs rs).length (eJ o f vs rs) o f) o) (eJ o f vs rs).length o f]
 |[],vs,s=>by simp[eJ]
 |a::ss,vs,s=>by simp only[Qa3,eJ];rw[qA o f ss]
def RowOk(n:Int):Row->Prop
 | .fix b=>b=0\/b=1
 | .not a=>0<=a/\a<n
 | .bin _ a b=>(0<=a/\a<n)/\0<=b/\b<n
theorem RowOk.ws(h:RowOk n r):∀a∈r.ws,0<=a/\a<n:=by
 cases r with
 |fix b=>intro a i;cases i
 |not a=>intro b f;simp[Row.ws]at f;subst f;exact h
 |bin k a b=>intro c hc;simp[Row.ws]at hc;exact hc.elim (λz=>z ▸ h.1) (λz=>z ▸ h.2)
def RowsOk(ins:Nat)(rows:Ab Row):Prop:=∀k r,rows[k]?=some r->RowOk ((ins+k:Nat):Int) r
structure FltOk(ins:Nat)(rows:List Row)(f:Flt):Prop where
 w:∀w b,f=.wire w b->b=0\/b=1
 l:∀w l b,f=.leg w l b->b=0\/b=1
 leg:∀w l b k r,f=.leg w l b->rows[k]?=some r->w=((ins+k:Nat):Int)->0<=l/\l<r.ws.length
def FltOk.no:FltOk ins rows .none:=⟨λ_ _ z=>(by cases z),λ_ _ _ z=>(by cases z),λ_ _ _ _ _ z=>(by cases z)⟩
def Z51(r:Row)(w:Int)(vs:Ab Int)(o:Int)(f:Flt):(legs r w vs o f).length=r.ws.length:=by
 unfold legs;split
 .split<;>simp
 .simp
def sI(h:b=0\/b=1):IntMulOk o b:=by rcases h with z|z<;>(subst z;exact oZ (by decide) (by decide))
def dA(n:Nat)(g:Int):Ab Int:=(List.range n).map λk=>(g/2^k)%2
def fG(ins:Nat)(rows:Ab Row)(g:Int)(f:Flt):Ab Int:=eJ 1 f (cA 1 f [] (dA ins g)) rows
def Z3w(ins:Nat)(rows:Ab Row)(g:Int)(f:Flt):(fG ins rows g f).length=ins+rows.length:=by
 unfold fG;rw[oR,fH];simp[dA]
def iT(o:Int)(f:Flt)(ss:Ab Int)(rows:Ab Row):Ab Int:=eJ o f (cA o f [] ss) rows
def oM(o:Int)(f:Flt)(ss:Ab Int)(rows:Ab Row):(iT o f ss rows).length=ss.length+rows.length:=by
 unfold iT;rw[oR,fH];simp
theorem pZ(o:Int)(f:Flt):∀(rs:Ab Row) (vs:Ab Int) (k:Nat),k<=rs.length->(eJ o f vs rs).take (vs.length+k)=eJ o f vs (rs.take k)
 |[],vs,k,h=>by
  have:k=0:=by simpa using h
  subst this;simp[eJ]
 |r::rs,vs,0,h=>by
  have a:=pZ o f rs (vs++[bY (iG r (legs r vs.length vs o f) o) vs.length o f]) 0 (QaY _);simp only[eJ,List.take_zero,Nat.add_zero]at a ⊢;have e:(eJ o f (vs++[bY (iG r (legs r vs.length vs o f) o) vs.length o f]) rs).take vs.length=((eJ o f (vs++[bY (iG r (legs r vs.length vs o f) o) vs.length o f]) rs).take (vs++[bY (iG r (legs r vs.length vs o f) o) vs.length o f]).length).take vs.length:=by
   rw[List.take_take];congr 1;simp
  rw[e,a];simp
 |r::rs,vs,k+1,h=>by
  have a:=pZ o f rs (vs++[bY (iG r (legs r vs.length vs o f) o) vs.length o f]) k (by simpa using h);simp only[eJ,Qbn];rw[<- a];congr 1;simp;omega
theorem mJ(o:Int)(f:Flt):∀(ss vs:Ab Int) (k:Nat),k<=ss.length->(cA o f vs ss).take (vs.length+k)=cA o f vs (ss.take k)
 |[],vs,k,h=>by
  have:k=0:=by simpa using h
  subst this;simp[cA]
 |s::ss,vs,0,h=>by
  have a:=mJ o f ss (vs++[bY s vs.length o f]) 0 (QaY _);simp only[cA,List.take_zero,Nat.add_zero]at a ⊢;have e:(cA o f (vs++[bY s vs.length o f]) ss).take vs.length=((cA o f (vs++[bY s vs.length o f]) ss).take (vs++[bY s vs.length o f]).length).take vs.length:=by
   rw[List.take_take];congr 1;simp
  rw[e,a];simp
 |s::ss,vs,k+1,h=>by
  have a:=mJ o f ss (vs++[bY s vs.length o f]) k (by simpa using h);simp only[cA,Qbn];rw[<- a];congr 1;simp;omega
def kA(h:k<=rows.length):(iT o f ss rows).take (ss.length+k)=iT o f ss (rows.take k):=by
 have:=pZ o f rows (cA o f [] ss) k h;rw[fH]at this;simpa[iT]using this
def zD(h:k<=ss.length):(iT o f ss rows).take k=cA o f [] (ss.take k):=by
 have h1:=kA (o:=o) (f:=f) (ss:=ss) (rows:=rows) (k:=0) (QaY _);have e:(iT o f ss rows).take k=((iT o f ss rows).take (ss.length+0)).take k:=by rw[List.take_take];congr 1;omega
 have h2:=mJ o f ss [] k h;rw[e,h1];simpa[iT,eJ]using h2
def A8{l a:Ab α}(h:l.take (i+1)=a++[x])(b:i<l.length):l.take i=a/\l[i]?=some x:=by
 have h1:l.take (i+1)=l.take i++[l[i]]:=by rw[Qbe,Qaj b];rfl
 rw[h1]at h;obtain⟨h2,h3⟩:=List.append_inj' h rfl;refine⟨h2,?_⟩;rw[Qaj b];simpa using h3
def wJ{f:Flt}{i:Nat}(h:ss[i]?=some s):(iT o f ss rows)[i]?=some (bY s i o f):=by
 have hi:i<ss.length:=(Qac.mp h).1;have h1:=zD (o:=o) (f:=f) (rows:=rows) (show i+1<=ss.length from hi)
 rw[gJ h,mK,fH]at h1;have h2:=(A8 h1 (by rw[oM];omega)).2;rw[h2];congr 2;simp;omega
def sN{f:Flt}(h:rows[k]?=some r) :
  (iT o f ss rows)[ss.length+k]?=some (bY (iG r (legs r ((ss.length+k:Nat):Int) ((iT o f ss rows).take (ss.length+k)) o f) o) ((ss.length+k:Nat):Int) o f):=by
 have j:k<rows.length:=(Qac.mp h).1;have h1:=kA (o:=o) (f:=f) (ss:=ss) (show k+1<=rows.length from j)
 have b:=kA (o:=o) (f:=f) (ss:=ss) (show k<=rows.length from Nat.le_of_lt j)
 have a:(iT o f ss (rows.take k)).length=ss.length+k:=by rw[oM];simp;omega
 rw[gJ h]at h1;unfold iT at h1 b a;rw[qA,a]at h1;have h2:=(A8 (l:=iT o f ss rows) (i:=ss.length+k) (by rw[<- h1];rfl) (by rw[oM];omega)).2;rw[h2];show _=some (bY (iG r (legs r _ ((eJ o f (cA o f [] ss) rows).take (ss.length+k)) o f) o) _ o f);rw[b]
def Bt(x:Int):Prop:=x=0\/x=1
instance (x:Int):Decidable (Bt x):=inferInstanceAs (Decidable (x=0\/x=1))
def Z7V(h:Bt x):Builtin.bitXor 1 x=1-x:=by rcases h with z|z<;>(subst z;decide)
def Z18(h:Bt x):Bt (Builtin.bitXor 1 x):=by rw[Z7V h];rcases h with z|z<;>(subst z;decide)
def Z3s(h:Bt x)(k:Bt y):Bt (Builtin.bitAnd x y):=by rcases h with z|z<;>rcases k with w|w<;>(subst z;subst w;decide)
def Z5G(h:Bt x)(k:Bt y):Bt (Builtin.bitOr x y):=by rcases h with z|z<;>rcases k with w|w<;>(subst z;subst w;decide)
def Z3r(h:Bt x)(k:Bt y):Bt (Builtin.bitXor x y):=by rcases h with z|z<;>rcases k with w|w<;>(subst z;subst w;decide)
def iM{i:Nat}(h:vs[i]?=some x)(e:a=(i:Int)):nth vs a=x:=by
 subst e;simp[nth,List.getD,h]
def M5(f:0<=a)(h1:a<vs.length):nth vs a∈vs:=by
 have b:a.toNat<vs.length:=by omega
 have:vs[a.toNat]?=some (vs[a.toNat]):=Qaj b;unfold nth;rw[List.getD,this];exact List.getElem_mem b
def jI(h:∀x∈vs,Bt x)(a:Int):Bt (nth vs a):=by
 unfold nth;cases e:vs[a.toNat]? with
 |none=>left;simp[List.getD,e]
 |some x=>rw[List.getD,e];exact h x (QaT e)
def Z1L(h:∀x∈vs,Bt x)(n:∀w l b,f=.leg w l b->b=0\/b=1):∀x∈legs r w vs 1 f,Bt x:=by
 have j:∀x∈r.ws.map (nth vs),Bt x:=λx i=>by
  obtain⟨a,_,rfl⟩:=QaL.mp i;exact jI h a
 intro x i;unfold legs at i;split at i
 .rename_i w' l b;split at i
  .rcases List.mem_or_eq_of_mem_set i with z|z
   .exact j x z
   .rw[z,Qa4];exact n _ _ _ rfl
  .exact j x i
 .exact j x i
def Z7L(h:∀x∈ls,Bt x)(f:RowOk n r):Bt (iG r ls 1):=by
 cases r with
 |fix b=>show Bt (1*b);rw[Qa4];exact f
 |not a=>exact Z18 (jI h 0)
 |bin k a b=>cases k with
  |and=>exact Z3s (jI h 0) (jI h 1)
  |or=>exact Z5G (jI h 0) (jI h 1)
  |xor=>exact Z3r (jI h 0) (jI h 1)
def B9(h:Bt v)(a:∀w b,f=.wire w b->b=0\/b=1):Bt (bY v w 1 f):=by
 unfold bY;split
 .split
  .rw[Qa4];exact a _ _ rfl
  .exact h
 .exact h
theorem wP(a:∀w b,f=.wire w b->b=0\/b=1):∀(ss vs:Ab Int),(∀x∈vs,Bt x)->(∀x∈ss,Bt x)->∀x∈cA 1 f vs ss,Bt x
 |[],vs,h,_=>h
 |s::ss,vs,h,hs=>by
  simp only[cA];refine wP a ss _ (λx hx=>?_) λx hx=>hs x (Qaa _ hx);rcases Qah.mp hx with z|z
  .exact h x z
  .have:x=bY s vs.length 1 f:=by simpa using z
   rw[this];exact B9 (hs s Qai) a
theorem S5(i:∀w b,f=.wire w b->b=0\/b=1)(a:∀w l b,f=.leg w l b->b=0\/b=1):∀(rs:Ab Row) (vs:Ab Int),(∀x∈vs,Bt x)->(∀r∈rs,∃n,RowOk n r)->∀x∈eJ 1 f vs rs,Bt x
 |[],vs,h,_=>h
 |r::rs,vs,h,hs=>by
  simp only[eJ];refine S5 i a rs _ (λx hx=>?_) λx hx=>hs x (Qaa _ hx);rcases Qah.mp hx with z|z
  .exact h x z
  .have:x=bY (iG r (legs r vs.length vs 1 f) 1) vs.length 1 f:=by simpa using z
   obtain⟨n,j⟩:=hs r Qai;rw[this];exact B9 (Z7L (Z1L h a) j) i
def N4(n:Nat)(g:Int):∀x∈dA n g,Bt x:=λx hx=>by
 obtain⟨k,_,rfl⟩:=QaL.mp hx;have a:=QaC (g/2^k) (show(2:Int)≠0 by decide);have h1:=Qaq (g/2^k) (show(0:Int)<2 by decide);show _\/_;omega
def sH(h:RowsOk ins rows)(a:FltOk ins rows f):∀x∈fG ins rows g f,Bt x:=by
 refine S5 a.w a.l rows _ (wP a.w _ _ (λx hx=>(by cases hx)) (N4 ins g)) λr hr'=>?_;obtain⟨k,b⟩:=Qa1 hr';exact⟨_,h k r b⟩
def Z5N(h:i<ins):(fG ins rows g f)[i]?=some (bY (g/2^i%2) i 1 f) :=
 wJ (ss:=dA ins g) (by simp[dA,h])
def Z3v(h:rows[k]?=some r) :
  (fG ins rows g f)[ins+k]?=some (bY (iG r (legs r ((ins+k:Nat):Int) ((fG ins rows g f).take (ins+k)) 1 f) 1) ((ins+k:Nat):Int) 1 f):=by
 have:=sN (o:=1) (f:=f) (ss:=dA ins g) h;have a:(dA ins g).length=ins:=by simp[dA]
 rw[a]at this;exact this
theorem B8:∀(n a b:Nat),a<=n->a ||| b=(a ^^^ b)+(a &&& b)
 |n,0,b,_=>by simp
 |0,a+1,b,h=>by omega
 |n+1,a+1,b,h=>by
  have j:=B8 n ((a+1)/2) (b/2) (by omega);have o:=congrArg (· = true) (Nat.testBit_or (a+1) b 0);have x:=congrArg (· = true) (Nat.testBit_xor (a+1) b 0);have d:=congrArg (· = true) (Nat.testBit_and (a+1) b 0);simp only[Nat.testBit_zero,Bool.or_eq_true,Qam,Rk]at o x d;rw[<- Nat.or_div_two,<- Nat.xor_div_two,<- Nat.and_div_two]at j;generalize a+1=A at *
  generalize A ||| b=O at *
  generalize A ^^^ b=X at *
  generalize A &&& b=N at *
  have f:O%2=1↔A%2=1\/b%2=1:=by rw[o]
  have hd:N%2=1↔A%2=1/\b%2=1:=by rw[d]
  have i:X%2=1↔¬(A%2=1↔b%2=1):=by
   rw[x];by_cases h1:A%2=1<;>by_cases h2:b%2=1<;>simp[h1,h2]
  by_cases h1:A%2=1<;>by_cases h2:b%2=1<;>simp only[h1,h2,or_self,or_true,true_or,and_self,and_true,true_and,and_false,false_and,iff_self,not_true,iff_true,iff_false,or_false,false_or,not_false_iff]at f hd i<;>omega
def Z3(a:Nat):¬(0:Int)<=Builtin.bitNot (a:Int):=by unfold Builtin.bitNot;omega
def Z5P(a:Int):Builtin.bitNot (Builtin.bitNot a)=a:=by unfold Builtin.bitNot;omega
def Z4(a b:Nat):Builtin.bitAnd (a:Int) (b:Int)=((a &&& b:Nat):Int):=by
 simp[Builtin.bitAnd]
def Z24(a b:Nat):Builtin.bitOr (a:Int) (b:Int)=((a ||| b:Nat):Int):=by
 unfold Builtin.bitOr Builtin.bitAnd;rw[Ri (Z3 a),Ri (Z3 b)];simp only[Z5P,QaJ]
def Z5O(a b:Nat):Builtin.bitXor (a:Int) (b:Int)=((a ^^^ b:Nat):Int):=by
 unfold Builtin.bitXor;rw[Z24,Z4,B8 a a b (Qap _)];omega
def tabN:Nat->(Nat->Bool)->Nat
 |0,_=>0
 |n+1,b=>tabN n b+(if b n then 2^n else 0)
theorem gF:∀(n:Nat) (b:Nat->Bool),tabN n b<2^n
 |0,b=>by simp[tabN]
 |n+1,b=>by
  have:=gF n b;simp only[tabN,Qbi];split<;>omega
theorem dH:∀(n:Nat) (b:Nat->Bool) (g:Nat),(tabN n b).testBit g=(decide (g<n)&&b g)
 |0,b,g=>by simp[tabN]
 |n+1,b,g=>by
  have a:=dH n b g;have h:=gF n b;simp only[tabN];cases f:b n with
  |true =>
   simp only[Rl];rw[Nat.add_comm];by_cases h1:g<n
   .rw[Nat.testBit_two_pow_add_gt h1,a];simp[h1,Nat.lt_succ_of_lt h1]
   .by_cases h2:g=n
    .subst h2;rw[Nat.testBit_two_pow_add_eq,a];simp[f]
    .rw[Nat.testBit_lt_two_pow]
     .simp[show ¬g<n+1 by omega]
     .have:2^(n+1)<=2^g:=Qa0 (by decide) (by omega);rw[Qbi]at this;omega
  |false =>
   simp only[QaU,Rm,Nat.add_zero];rw[a];by_cases h2:g=n
   .subst h2;simp[f]
   .by_cases h1:g<n
    .simp[h1,Nat.lt_succ_of_lt h1]
    .simp[h1,show ¬g<n+1 by omega]
def Z09(h:∀g,g<n->a g=b g):tabN n a=tabN n b:=by
 apply Nat.eq_of_testBit_eq;intro g;rw[dH,dH];by_cases f:g<n
 .simp[f,h g f]
 .simp[f]
def oN(h1:x<2^n)(h:∀g,g<n->x.testBit g=b g):x=tabN n b:=by
 apply Nat.eq_of_testBit_eq;intro g;rw[dH];by_cases a:g<n
 .simp[a,h g a]
 .have:x<2^g:=Qau h1 (Qa0 (by decide) (by omega));rw[Nat.testBit_lt_two_pow this];simp[a]
def tab(n:Nat)(b:Nat->Bool):Int:=(tabN n b:Int)
def eY(h:∀g,g<n->a g=b g):tab n a=tab n b:=by unfold tab;rw[Z09 h]
def Z68(n:Nat)(a b:Nat->Bool):Builtin.bitAnd (tab n a) (tab n b)=tab n (λg=>a g&&b g):=by
 unfold tab;rw[Z4];congr 1;refine oN (Nat.lt_of_le_of_lt Nat.and_le_left (gF n a)) λg hg=>?_;rw[Nat.testBit_and,dH,dH];simp[hg]
def Z08(n:Nat)(a b:Nat->Bool):Builtin.bitOr (tab n a) (tab n b)=tab n (λg=>a g||b g):=by
 unfold tab;rw[Z24];congr 1;refine oN (Nat.or_lt_two_pow (gF n a) (gF n b)) λg hg=>?_;rw[Nat.testBit_or,dH,dH];simp[hg]
def F8(n:Nat)(a b:Nat->Bool):Builtin.bitXor (tab n a) (tab n b)=tab n (λg=>a g ^^ b g):=by
 unfold tab;rw[Z5O];congr 1;refine oN (Nat.xor_lt_two_pow (gF n a) (gF n b)) λg hg=>?_;rw[Nat.testBit_xor,dH,dH];simp[hg]
def Z2d(n:Nat):tabN n (λ_=>true)=2^n-1:=by
 symm;refine oN (by have:=QaX n;omega) λg hg=>?_;rw[Nat.testBit_two_pow_sub_one];simp[hg]
theorem sQ:∀(n:Nat),tabN n (λ_=>false)=0
 |0=>rfl
 |n+1=>by simp[tabN,sQ n]
def bC(n:Nat):Int:=2^n-1
def qS(n:Nat):tab n (λ_=>true)=bC n:=by
 unfold tab bC;rw[Z2d];have:=QaX n;rw[Int.ofNat_sub (by omega)];simp
def Z1l(n:Nat){b:Int}(h:b=0\/b=1):bC n*b=tab n (λ_=>decide (b=1)):=by
 rcases h with z|z
 .subst z;have:(λ_:Nat=>decide ((0:Int)=1))=λ_=>false:=by funext;decide
  rw[this,Int.mul_zero];unfold tab;rw[sQ];rfl
 .subst z;have:(λ_:Nat=>decide ((1:Int)=1))=λ_=>true:=by funext;decide
  rw[this,Int.mul_one,qS]
def Z1k(n:Nat)(b:Nat->Bool):Builtin.bitXor (bC n) (tab n b)=tab n (λg=>!b g):=by
 rw[<- qS,F8];exact eY λg _=>by simp
def inT:Nat->Ab Int
 |0=>[]
 |k+1=>(inT k).map (λt=>Builtin.bitOr t (t*2^(2^k)))++[bC (2^k)*2^(2^k)]
theorem fS:∀n,(inT n).length=n
 |0=>rfl
 |n+1=>by simp[inT,fS n]
def Z1j(n:Nat)(b:Nat->Bool):tab n b*2^n=tab (n+n) (λg=>decide (n<=g)&&b (g-n)):=by
 unfold tab;have:((tabN n b:Nat):Int)*2^n=((tabN n b*2^n:Nat):Int):=by simp
 rw[this];congr 1;refine oN ?_ λg hg=>?_
 .rw[Nat.pow_add];exact Nat.mul_lt_mul_of_pos_right (gF n b) (QaX n)
 .rw[<- Nat.shiftLeft_eq,Nat.testBit_shiftLeft,dH];by_cases h:n<=g
  .simp[h,show g-n<n by omega]
  .simp[h]
def Z3L(n m:Nat)(b:Nat->Bool):tab n b=tab (n+m) (λg=>decide (g<n)&&b g):=by
 unfold tab;congr 1;refine oN ?_ λg hg=>dH n b g;exact Qau (gF n b) (Qa0 (by decide) (by omega))
theorem pF:∀(n i:Nat),i<n->(inT n)[i]?=some (tab (2^n) λg=>decide (g/2^i%2=1))
 |0,i,h=>by omega
 |n+1,i,h=>by
  have b:2^(n+1)=2^n+2^n:=by rw[Qbi];omega
  simp only[inT];by_cases hi:i<n
  .rw[QaB (by simp[fS,hi]),QaD,pF n i hi];simp only[QaH];congr 1;rw[Z1j];rw[Z3L (2^n) (2^n),Z08,b];refine eY λg hg=>?_;by_cases h1:g<2^n
   .simp[h1,show ¬2^n<=g by omega]
   .have h2:2^n<=g:=by omega
    simp only[h1,h2,decide_false,decide_true,Bool.false_and,Bool.false_or,Bool.true_and];have h3:2^n=2^i*(2*2^(n-i-1)):=by rw[<- Nat.pow_succ',<- Nat.pow_add];congr 1;omega
    have f:g/2^i=(g-2^n)/2^i+2*2^(n-i-1):=by
     have:g=(g-2^n)+2^i*(2*2^(n-i-1)):=by omega
     conv=>lhs;rw[this]
     rw[Nat.add_mul_div_left _ _ (QaX i)]
    rw[f];congr 2;omega
  .have a:i=n:=by omega
   subst a;rw[QaQ (by simp[fS]),Qab,fS,Nat.sub_self];simp only[Qbb];congr 1;rw[<- qS,Z1j,b];refine eY λg hg=>?_;by_cases h1:2^i<=g
   .have:g/2^i=1:=by
     rw[Nat.div_eq_iff (QaX i)];omega
    simp[h1,this]
   .have:g/2^i=0:=Nat.div_eq_of_lt (by omega);simp[h1,this]
def ZaB(h:Bt x)(k:Bt y):(decide (x=1)&&decide (y=1))=decide (Builtin.bitAnd x y=1):=by rcases h with z|z<;>rcases k with w|w<;>(subst z;subst w;decide)
def Zbc(h:Bt x)(k:Bt y):(decide (x=1)||decide (y=1))=decide (Builtin.bitOr x y=1):=by rcases h with z|z<;>rcases k with w|w<;>(subst z;subst w;decide)
def Zaz(h:Bt x)(k:Bt y):(decide (x=1) ^^ decide (y=1))=decide (Builtin.bitXor x y=1):=by rcases h with z|z<;>rcases k with w|w<;>(subst z;subst w;decide)
def ZaA(h:Bt x):(!decide (x=1))=decide (Builtin.bitXor 1 x=1):=by rcases h with z|z<;>(subst z;decide)
def tb(n:Nat)(b:Nat->Int):Int:=tab n λg=>decide (b g=1)
def lR(h:∀g,g<n->a g=b g):tb n a=tb n b:=eY λg hg=>by rw[h g hg]
def Z07(n:Nat){b:Int}(h:b=0\/b=1):bC n*b=tb n λ_=>1*b:=by
 rw[Z1l n h];exact eY λg _=>by rw[Qa4]
def Z8w(n:Nat){a b:Nat->Int}(f:∀g,Bt (a g))(h:∀g,Bt (b g)):Builtin.bitAnd (tb n a) (tb n b)=tb n λg=>Builtin.bitAnd (a g) (b g):=by
 unfold tb;rw[Z68];exact eY λg _=>ZaB (f g) (h g)
def Z9J(n:Nat){a b:Nat->Int}(f:∀g,Bt (a g))(h:∀g,Bt (b g)):Builtin.bitOr (tb n a) (tb n b)=tb n λg=>Builtin.bitOr (a g) (b g):=by
 unfold tb;rw[Z08];exact eY λg _=>Zbc (f g) (h g)
def Z8u(n:Nat){a b:Nat->Int}(f:∀g,Bt (a g))(h:∀g,Bt (b g)):Builtin.bitXor (tb n a) (tb n b)=tb n λg=>Builtin.bitXor (a g) (b g):=by
 unfold tb;rw[F8];exact eY λg _=>Zaz (f g) (h g)
def Z8v(n:Nat){a:Nat->Int}(b:∀g,Bt (a g)):Builtin.bitXor (bC n) (tb n a)=tb n λg=>Builtin.bitXor 1 (a g):=by
 unfold tb;rw[Z1k];exact eY λg _=>ZaA (b g)
def A4(h:v=tb n b)(a:∀w b,f=.wire w b->b=0\/b=1):bY v w (bC n) f=tb n λg=>bY (b g) w 1 f:=by
 cases f with
 |none=>exact h
 |leg _ _ _=>exact h
 |wire w' b' =>
  unfold bY;by_cases hw:w'=w
  .simp only[hw,Rl];exact Z07 n (a _ _ rfl)
  .simp only[hw,Rm];exact h
def Z65{V:Ab Int}{B:Nat->Ab Int}(h:∀a∈r.ws,nth V a=tb n λg=>nth (B g) a)(v:∀w l b,f=.leg w l b->b=0\/b=1) :
  ∀j:Nat,j<r.ws.length->nth (legs r w V (bC n) f) j=tb n λg=>nth (legs r w (B g) 1 f) j:=by
 have base:∀j:Nat,j<r.ws.length->nth (r.ws.map (nth V)) j=tb n λg=>nth (r.ws.map (nth (B g))) j:=by
  intro j o;have p:∀L:Ab Int,nth (r.ws.map (nth L)) j=nth L (r.ws[j]):=λL=>iM (i:=j) (by simp[o]) rfl;rw[p V,h _ (List.getElem_mem o)];exact lR λg _=>(p (B g)).symm
 intro j o;cases f with
 |none=>exact base j o
 |wire _ _=>exact base j o
 |leg w' l b =>
  unfold legs;by_cases hw:w'=w
  .simp only[hw,Rl];by_cases q:l.toNat=j
   .have u:∀(L:Ab Int) (x:Int),L.length=r.ws.length->nth (L.set l.toNat x) j=x:=λL x hL=>iM (i:=j) (by rw[q,Qaw (by omega)]) rfl;rw[u _ _ (by simp)];rw[Z07 n (v _ _ _ rfl)];exact lR λg _=>(u _ _ (by simp)).symm
   .have t:∀(L:Ab Int) (x:Int),nth (L.set l.toNat x) j=nth L j:=λL x=>by
     unfold nth;rw[QaJ,List.getD,List.getD,Qak q]
    rw[t,base j o];exact lR λg _=>(t _ _).symm
  .simp only[hw,Rm];exact base j o
def Z66{M:Nat->Ab Int}(l:RowOk k r)(h:∀j:Nat,j<r.ws.length->nth L j=tb n λg=>nth (M g) j)(o:∀g,∀x∈M g,Bt x):iG r L (bC n)=tb n λg=>iG r (M g) 1:=by
 have f:∀j g,Bt (nth (M g) j):=λj g=>jI (o g) j;cases r with
 |fix b=>exact Z07 n l
 |not a =>
  have i:=h 0 (by simp[Row.ws]);show Builtin.bitXor (bC n) (nth L 0)=_;rw[show nth L 0=nth L ((0:Nat):Int) from rfl,i]
  exact Z8v n λg=>f _ g
 |bin k a b =>
  have i:nth L 0=tb n λg=>nth (M g) 0:=h 0 (by simp[Row.ws]);have h1:nth L 1=tb n λg=>nth (M g) 1:=h 1 (by simp[Row.ws]);cases k with
  |and =>
   show Builtin.bitAnd (nth L 0) (nth L 1)=_;rw[i,h1];exact Z8w n (λg=>f _ g) λg=>f _ g
  |or =>
   show Builtin.bitOr (nth L 0) (nth L 1)=_;rw[i,h1];exact Z9J n (λg=>f _ g) λg=>f _ g
  |xor =>
   show Builtin.bitXor (nth L 0) (nth L 1)=_;rw[i,h1];exact Z8u n (λg=>f _ g) λg=>f _ g
def bD(ins:Nat)(rows:Ab Row)(f:Flt):Ab Int:=iT (bC (2^ins)) f (inT ins) rows
def lB(ins:Nat)(rows:Ab Row)(f:Flt):(bD ins rows f).length=ins+rows.length:=by
 unfold bD;rw[oM,fS]
def U8{i:Nat}(b:0<=a)(h1:a<i):nth (l.take i) a=nth l a:=by
 unfold nth;rw[List.getD,List.getD,List.getElem?_take_of_lt (by omega)]
def uP{rows:Ab Row}(t:RowsOk ins rows)(j:FltOk ins rows f):∀(i:Nat),i<ins+rows.length->nth (bD ins rows f) i=tb (2^ins) λg=>nth (fG ins rows g f) i:=by
 intro i
 induction i using Nat.strongRecOn with
 |_ i ih =>
  intro hi;by_cases h1:i<ins
  .have n:(bD ins rows f)[i]?=some (bY (tab (2^ins) λg=>decide (g/2^i%2=1)) i (bC (2^ins)) f):=wJ (pF ins i h1);rw[iM n rfl];have p:(tab (2^ins) λg=>decide (g/2^i%2=1))=tb (2^ins) λg=>((g:Int)/2^i%2):=by
    refine eY λg _=>?_;have y:((g:Int)/2^i%2)=((g/2^i%2:Nat):Int):=by simp
    have u:(g/2^i%2=1)↔((g:Int)/2^i%2=1):=by rw[y];omega
    exact decide_eq_decide.mpr u
   rw[A4 p j.w];exact lR λg _=>(iM (Z5N h1) rfl).symm
  .obtain⟨k,rfl⟩:∃k,i=ins+k:=⟨i-ins,by omega⟩;have A:k<rows.length:=by omega
   have b:=Qaj A;generalize rows[k]=r at b;have h:=t k r b;have n:=sN (o:=bC (2^ins)) (f:=f) (ss:=inT ins) b;rw[fS]at n;rw[show nth (bD ins rows f) ((ins+k:Nat):Int)=_ from iM n rfl]
   have v:∀g:Nat,nth (fG ins rows g f) ((ins+k:Nat):Int)=_:=λg=>iM (Z3v (g:=g) (f:=f) b) rfl;have p:iG r (legs r ((ins+k:Nat):Int) ((iT (bC (2^ins)) f (inT ins) rows).take (ins+k)) (bC (2^ins)) f) (bC (2^ins))=tb (2^ins) λg=>iG r (legs r ((ins+k:Nat):Int) ((fG ins rows g f).take (ins+k)) 1 f) 1:=by
    refine Z66 h (Z65 (λa ha=>?_) j.l) λg=>Z1L (λx hx=>sH t j x (List.mem_of_mem_take hx)) j.l;have B:=h.ws a ha;obtain⟨q,rfl⟩:∃q:Nat,a=(q:Int):=⟨a.toNat,by omega⟩;have:=ih q (by omega) (by omega);rw[U8 (by omega) (by omega)];show nth (bD ins rows f) _=_;rw[this];exact lR λg _=>(U8 (by omega) (by omega)).symm
   rw[A4 p j.w];exact lR λg _=>(v g).symm
theorem wN:∀(n:Nat) (b:Nat->Bool),tabN n b+tabN n (λg=>!b g)+1=2^n
 |0,b=>by simp[tabN]
 |n+1,b=>by
  have f:=wN n b;simp only[tabN,Qbi];by_cases a:b n=true
  .simp only[a,Bool.not_true,QaU,Rl,Rm];omega
  .simp only[a,Bool.not_false,QaU,Rl,Rm];omega
def Z67(n:Nat)(b:Nat->Bool):bC n-tab n b=tab n (λg=>!b g):=by
 have h:=wN n b;have h2:((2^n:Nat):Int)=2^n:=by simp
 unfold bC tab;rw[<- h2];omega
def IsT(n:Nat)(x:Int):Prop:=∃b,x=tab n b
def Z7F(h:IsT n x):Builtin.bitXor (bC n) x=bC n-x:=by obtain⟨b,rfl⟩:=h;rw[Z1k,Z67]
def IsT.or(h:IsT n x)(k:IsT n y):IsT n (Builtin.bitOr x y):=by obtain⟨b,rfl⟩:=h;obtain⟨c,rfl⟩:=k;exact⟨_,Z08 n b c⟩
def IsT.xor(h:IsT n x)(k:IsT n y):IsT n (Builtin.bitXor x y):=by obtain⟨b,rfl⟩:=h;obtain⟨c,rfl⟩:=k;exact⟨_,F8 n b c⟩
def yD(n:Nat):IsT n 0:=⟨λ_=>false,by unfold tab;rw[sQ];rfl⟩
def IsT.nonneg(h:IsT n x):0<=x:=by obtain⟨b,rfl⟩:=h;exact Int.natCast_nonneg _
def Z7G(h:b=0\/b=1):IsT n (bC n*b):=⟨_,Z1l n h⟩
def Z7n(l:Ab Int)(a:Int):nth l a=nth l ((a.toNat:Nat):Int):=by unfold nth;rw[QaJ]
def iU(i:RowsOk ins rows)(b:FltOk ins rows f)(a:Int):IsT (2^ins) (nth (bD ins rows f) a):=by
 by_cases h:a.toNat<ins+rows.length
 .rw[Z7n,uP i b _ h];exact⟨_,rfl⟩
 .have:nth (bD ins rows f) a=0:=by
   unfold nth;rw[List.getD,Qas (by rw[lB];omega)];rfl
  rw[this];exact yD _
def wM(h:i<ins):(bD ins rows f)[i]?=some (bY (tab (2^ins) λg=>decide (g/2^i%2=1)) i (bC (2^ins)) f):=wJ (pF ins i h)
def uO(h:rows[k]?=some r) :
  (bD ins rows f)[ins+k]?=some (bY (iG r (legs r ((ins+k:Nat):Int) ((bD ins rows f).take (ins+k)) (bC (2^ins)) f) (bC (2^ins))) ((ins+k:Nat):Int) (bC (2^ins)) f):=by
 have:=sN (o:=bC (2^ins)) (f:=f) (ss:=inT ins) h;rw[fS]at this;exact this
def tU(r:Row)(w l:Int)(vs:Ab Int)(o:Int)(f:Flt):Int:=match f with
 | .leg w' l' b=>if w'=w/\l'=l then o*b else nth vs (nth r.ws l)
 |_=>nth vs (nth r.ws l)
def tT(q:l=0/\0<r.ws.length\/l=1/\1<r.ws.length)(t:∀w' l' b,f=.leg w' l' b->w'=w->0<=l'/\l'<r.ws.length):nth (legs r w vs o f) l=tU r w l vs o f:=by
 have p:∀j:Nat,j<r.ws.length->(r.ws.map (nth vs))[j]?=some (nth vs (nth r.ws j)):=λj hj=>by
  rw[QaD,Qaj hj];simp[nth,List.getD,hj]
 have a:nth (r.ws.map (nth vs)) l=nth vs (nth r.ws l):=by
  rcases q with⟨rfl,h⟩|⟨rfl,h⟩
  .exact iM (p 0 h) rfl
  .exact iM (p 1 h) rfl
 cases f with
 |none=>exact a
 |wire _ _=>exact a
 |leg w' l' b =>
  unfold legs tU;by_cases h:w'=w
  .obtain⟨u,l1⟩:=t w' l' b rfl h;simp only[h,Rl,true_and];by_cases h2:l'=l
   .subst h2;simp only[Rl];refine iM (i:=l'.toNat) ?_ (by omega);rw[Qaw (by rw[Qab];omega)]
   .simp only[h2,Rm];have n:l'.toNat≠l.toNat:=by omega
    rw[<- a];unfold nth;rw[List.getD,List.getD,Qak n]
  .simp only[h,Rm,false_and];exact a
def kdT(k:Kd)(x y:Int):Int:=match k with | .and=>Builtin.bitAnd x y | .or=>Builtin.bitOr x y | .xor=>Builtin.bitXor x y
def Z52(h:∀a,IsT n (nth vs a))(i:∀w l b,f=.leg w l b->b=0\/b=1):IsT n (tU r w l vs (bC n) f):=by
 unfold tU;split
 .split
  .exact Z7G (i _ _ _ rfl)
  .exact h _
 .exact h _
def pO(A B outs:Ab Int):Int:=outs.foldl (λacc a=>Builtin.bitOr acc (Builtin.bitXor (nth A a) (nth B a))) 0
theorem A0(b:∀a,IsT n (nth A a))(f:∀a,IsT n (nth B a)):∀(outs:Ab Int) (x:Int),IsT n x->IsT n (outs.foldl (λacc a=>Builtin.bitOr acc (Builtin.bitXor (nth A a) (nth B a))) x)
 |[],x,h=>h
 |a::outs,x,h=>by rw[List.foldl_cons];exact A0 b f outs _ (h.or ((b a).xor (f a)))
def A3(b:∀a,IsT n (nth A a))(f:∀a,IsT n (nth B a))(outs:Ab Int):IsT n (pO A B outs):=A0 b f outs 0 (yD n)
def wL{A B outs:Ab Int}{i:Nat}{a:Int}(h:outs[i]?=some a):pO A B (outs.take (i+1))=Builtin.bitOr (pO A B (outs.take i)) (Builtin.bitXor (nth A a) (nth B a)):=by
 unfold pO;rw[gJ h,List.foldl_append];rfl
theorem U7:∀(n t:Nat),t<=n->0<t->∃k m,t=2^k*(2*m+1)
 |0,t,h,h0=>by omega
 |n+1,t,h,h0=>by
  by_cases a:t%2=1
  .exact⟨0,t/2,by simp;omega⟩
  .obtain⟨k,m,e⟩:=U7 n (t/2) (by omega) (by omega);refine⟨k+1,m,?_⟩;have:t=2*(t/2):=by omega
   rw[this,e,Qbi];simp only[Nat.mul_comm,Nat.mul_left_comm,Nat.mul_assoc]
theorem Z1K:∀(k m:Nat),(2^k*(2*m+1)) &&& (2^k*(2*m+1)-1)=2^k*(2*m)
 |0,m=>by
  have d:=congrArg (· = true) (Nat.testBit_and (2*m+1) (2*m) 0);simp only[Nat.testBit_zero,Qam,Rk]at d;have h1:=Nat.and_div_two (a:=2*m+1) (b:=2*m);rw[show(2*m+1)/2=m by omega,show 2*m/2=m by omega,Nat.and_self]at h1;simp only[Nat.pow_zero,Nat.one_mul,Nat.add_sub_cancel];generalize (2*m+1) &&& (2*m)=N at *
  have hd:¬N%2=1:=by rw[d];omega
  omega
 |k+1,m=>by
  have h:=Z1K k m;have f:0<2^k*(2*m+1):=Nat.mul_pos (QaX k) (by omega);have e:2^(k+1)*(2*m+1)=2*(2^k*(2*m+1)):=by rw[Qbi,Nat.mul_comm (2^k) 2,Nat.mul_assoc]
  have i:2^(k+1)*(2*m)=2*(2^k*(2*m)):=by rw[Qbi,Nat.mul_comm (2^k) 2,Nat.mul_assoc]
  rw[e,i];generalize 2^k*(2*m+1)=T at *
  generalize 2^k*(2*m)=U at *
  have d:=congrArg (· = true) (Nat.testBit_and (2*T) (2*T-1) 0);simp only[Nat.testBit_zero,Qam,Rk]at d;have h1:=Nat.and_div_two (a:=2*T) (b:=2*T-1);rw[show 2*T/2=T by omega,show(2*T-1)/2=T-1 by omega,h]at h1;generalize (2*T) &&& (2*T-1)=N at *
  have hd:¬N%2=1:=by rw[d];omega
  omega
def Z7u(h:t=((2^k*(2*m+1):Nat):Int)):Builtin.bitAnd t (-t)=((2^k:Nat):Int):=by
 have a:0<2^k*(2*m+1):=Nat.mul_pos (QaX k) (by omega);have l:=Z1K k m;have f:2^k*(2*m+1)=2^k*(2*m)+2^k:=by rw[Nat.mul_add,Nat.mul_one]
 generalize 2^k*(2*m+1)=T at *
 subst h;unfold Builtin.bitAnd;rw[Rj (show(0:Int)<=(T:Int) by omega),Ri (show ¬(0:Int) <= -(T:Int) by omega)];have b:(Builtin.bitNot (-(T:Int))).toNat=T-1:=by unfold Builtin.bitNot;omega
 simp only[b,QaJ,l];omega
def Z5K(k:Nat):Builtin.Int.intBits ((2^k:Nat):Int)=k+1:=by
 have b:=QaX k;unfold Builtin.Int.intBits;have a:¬((2^k:Nat):Int)=0:=by omega
 have h1:(((2^k:Nat):Int)==0)=false:=by simpa using a
 rw[h1];simp only[QaU,Rm,Int.natAbs_natCast,rR]
def dF(ins:Nat)(rows:Ab Row)(w:Int):Ab Int:=if w<(ins:Int) then[] else match rows[(w-(ins:Int)).toNat]? with|some r=>r.ws|none=>[]
def C3{ins:Nat}(h:w<(ins:Int)):dF ins rows w=[]:=if_pos h
def qH{ins:Nat}(h:(ins:Int)<=w)(e:rows[(w-(ins:Int)).toNat]?=some r):dF ins rows w=r.ws:=by
 unfold dF;rw[if_neg (by omega),e]
structure Zbk(ins:Nat)(rows:List Row)(outs L:List Int):Prop where
 nd:L.Nodup
 out:∀a∈outs,a∈L
 cl:∀a∈L,∀b∈dF ins rows a,b∈L
 least:∀S:Int->Prop,(∀a∈outs,S a)->(∀a,S a->∀b∈dF ins rows a,S b)->∀a∈L,S a
structure Zbj(ins:Nat)(rows:List Row)(outs:List Int)(j:Nat)(L:List Int):Prop where
 nd:L.Nodup
 out:∀a∈outs,a∈L
 cl:∀a∈L,((ins+rows.length:Nat):Int)-(j:Int)<=a->∀b∈dF ins rows a,b∈L
 least:∀S:Int->Prop,(∀a∈outs,S a)->(∀a,S a->∀b∈dF ins rows a,S b)->∀a∈L,S a
def yZ{rows:Ab Row}{k:Nat}(h:rows[k]?=some r){a:Int}(e:a=(k:Int)):atI (rows.map Row.d) a=some r.d:=by
 subst e;exact lM (by simp[h])
def qM(h:env[i]?=some (some (true,d)))(a:iI r env=some ds):iI (.inl i::r) env=some (d::ds):=by unfold iI;rw[h,a]
def Z10(h:f env=some d)(a:iI r env=some ds):iI (.inr f::r) env=some (d::ds):=by unfold iI;rw[h,a]
def Z4n(h:iI is env=some ds)(a:ds.length<=1000):T3 is env=.ret (.tup ds):=by unfold T3;rw[h];simp only[a,Rl]
def pY(f:Flt)(w:Int):Bool:=match f with | .wire w' _=>decide (w'=w)|_=>false
def aN(ins:Nat)(rows:Ab Row)(outs:Ab Int):D:=.tup [.int ins,.lst (rows.map Row.d),LI outs,LI (inT ins)]
def ZaZ(h:(b-a).toNat=n)(f:0<=a)(h1:a<=1000)(h2:0<=b)(h3:b<=1000):Z8 [.int a,.int b]=some ((List.range n).map λ(k:Nat)=>.int (a+(k:Int))):=by
 simp only[Z8];rw[if_pos ⟨by omega,by omega,by omega,by omega⟩,h]
def Z14(b:0<j)(h1:j<65536):dD i j:=by
 refine⟨b,?_⟩;have:j.natAbs.log2<=j.natAbs:=Nat.log2_le_self _;by_cases a:j.natAbs=0
 .rw[a];decide
 .have h2:j.natAbs<2^16:=by omega
  have:=(Nat.log2_lt a).mpr h2;omega
def Z7m(h:(l.length:Int)<=a):nth l a=0:=by
 unfold nth;rw[List.getD,Qas (by omega)];rfl
def Z7l{l:Ab Int}{j:Nat}{x:Int}(P:Int->Prop)(h:∀a∈l,P a)(b:P x):∀a∈l.set j x,P a:=λa ha=>(List.mem_or_eq_of_mem_set ha).elim (h a) λz=>z ▸ b
structure Zbi(ins:Nat)(rows:List Row)(outs:List Int)(j:Nat)(L:List Int):Prop where
 out:∀a∈outs,a∈L
 cl:∀a∈L,((ins+rows.length:Nat):Int)-(j:Int)<=a->∀b∈dF ins rows a,b∈L
 least:∀S:Int->Prop,(∀a∈outs,S a)->(∀a,S a->∀b∈dF ins rows a,S b)->∀a∈L,S a
end G
namespace PD
open PySem PySem.Spec PyProof.Rows L2
def EnvS.drop{K:Frag}{P H:Hp}{σ:L2.St}{env:En}{F:Nat->Ab Af}(j:Nat)(hF:EnvS K P H σ env F):EnvS K P H σ (env.set j none) F:=by
 have a:∀{k:Nat}{s:Bool×D},(env.set j none)[k]?=some (some s)->env[k]?=some (some s):=λ{k s} e=>by
  by_cases b:j=k
  .subst b;by_cases i:j<env.length
   .rw[Qaw i]at e;cases e
   .rw[Qas (by simp;omega)]at e;cases e
  .rwa [Qak b]at e
 refine⟨λk o d e=>hF.ok k o d (a e),λk d e=>?_⟩;obtain⟨p,f,n,h⟩:=hF.own k d (a e);exact⟨p,f,n,λl s hl es=>h l s hl (a es)⟩
theorem SInv.drop{K:Frag}{P H:Hp}{σ:L2.St}{env:En}(j:Nat)(h:SInv K P H σ env):SInv K P H σ (env.set j none) :=
 ⟨h.same,by rw[List.length_set];exact h.len,h.ex.imp λ_ hF=>hF.drop j⟩
def SInv.put{K:Frag}{P H:Hp}{σ:L2.St}{env:En}(j:Nat)(x:Aa V)(h:SInv K P H σ env)(f:env[j]?=some none):SInv K P H (σ.set j x) env:=by
 obtain⟨F,hF⟩:=h.ex;have a:∀{k:Nat}{s:Bool×D},env[k]?=some (some s)->j≠k:=λe z=>by rw[z,e]at f;cases f
 refine⟨h.same,by rw[List.length_set];exact h.len,F,λk o d e=>?_,λk d e=>?_⟩
 .obtain⟨v,b,r⟩:=hF.ok k o d e;exact⟨v,by rw[Qak (a e)];exact b,r⟩
 .obtain⟨n,p,l,i⟩:=hF.own k d e;exact⟨n,p,λv b=>l v (by rwa [Qak (a e)]at b),i⟩
open Classical in
mutual
theorem Rep.keepF{K:Frag}{st:Bool}{H H':Hp}(ht:∀a xs,SqT K H a xs->SqT K H' a xs):∀(d:D) (v:V) (fp:Ab Af),flat d=true->Rep K st H d v fp->Rep K st H' d v fp
 | .non,v,fp,_,h=>by simpa only [Rep]using h
 | .bl _,v,fp,_,h=>by simpa only [Rep]using h
 | .int _,v,fp,_,h=>by simpa only [Rep]using h
 | .str _,v,fp,_,h=>by simpa only [Rep]using h
 | .tup ds,v,fp,f,h=>by
  simp only[Rep]at h ⊢;obtain⟨a,vs,e,hs,hr⟩:=h;exact⟨a,vs,e,ht _ _ hs,Reps.keepF ht ds vs fp (by simpa only [PD.flat]using f) hr⟩
 | .lst _,v,fp,f,h=>by simp only[PD.flat]at f;cases f
 | .obj _ _ _,v,fp,f,h=>by simp only[PD.flat]at f;cases f
 | .dk _ _,v,fp,f,h=>by simp only[PD.flat]at f;cases f
 | .dt _ _,v,fp,f,h=>by simp only[PD.flat]at f;cases f
 | .exc _,v,fp,f,h=>by simp only[PD.flat]at f;cases f
 | .fn _ _ _,v,fp,f,h=>by simp only[PD.flat]at f;cases f
theorem Reps.keepF{K:Frag}{st:Bool}{H H':Hp}(ht:∀a xs,SqT K H a xs->SqT K H' a xs):∀(ds:Ab D) (vs:Ab V) (fp:Ab Af),flats ds=true->Reps K st H ds vs fp->Reps K st H' ds vs fp
 |[],vs,fp,_,h=>by simpa only [Reps]using h
 |d::ds,vs,fp,f,h=>by
  simp only[Reps]at h ⊢;simp only[flats,Qam]at f;obtain⟨v,r,f1,f2,e1,e2,h1,h2⟩:=h;exact⟨v,r,f1,f2,e1,e2,Rep.keepF ht d v f1 f.1 h1,Reps.keepF ht ds r f2 f.2 h2⟩
end
section
variable {X:Cx}{m m1:Bool}{rs rs1:Ab Nat}{a:Ag}{fa:En->Aa D}{pos:Pos}
def Z3e:CallR X (.type "str") (λxs H Q=>(∃i:Int,xs=[.int i]/\i.natAbs.log2<1920/\Q (.str (toString i)) H)\/∃x,xs=[.str x]/\Q (.str x) H):=by
 intro pins s σ H xs us Q I r h;rcases h with h|⟨x,rfl,q⟩
 .exact sA pins s σ H xs us Q I r h
 .obtain⟨u,rfl,t,rfl⟩:=pN r;exact PySem.P.str_of_str ⟨.str x,H,I,⟨_,rfl⟩,q⟩
def sJ:Ab D->Aa D
 |[.int i]=>if i.natAbs.log2<1920 then some (.str (toString i)) else none
 |[.str x]=>some (.str x)
 |_=>none
def L5{p:Pos}(h:Gl X "str")(l:X.mg "str" = none)(j:QE X m1 rs1 a fa)(he:starEach [a] X.env=(false,eval a X.env)::starEach [] X.env:=by rfl)(hpl:(backTo pos (starEach [] X.env)).any (·.1)=false:=by rfl) :
  QE X m rs (.Call (.Name "str" p) [a] [] pos) (λenv=>(aA fa aF env).bind sJ) :=
 jY Z3e h l Y8 (aC j aV he) (λds d vs H fp Q e r q=>by
  unfold sJ at e;split at e
  .split at e
   .rename_i i hi;cases e;obtain⟨v,rfl,f⟩:=iW r;rw[bP f];exact .inl ⟨i,rfl,hi,q _ _ [] (Same.refl H) kJ (λb hb=>(by cases hb)) Qaz⟩
   .cases e
  .cases e;obtain⟨v,rfl,f⟩:=iW r;rw[cP f];exact .inr ⟨_,rfl,q _ _ [] (Same.refl H) kJ (λb hb=>(by cases hb)) Qaz⟩
  .cases e) (he:=he) (hpl:=hpl)
end
end PD
namespace L2
open PySem PySem.Spec PyProof.Rows
def Z8q(H:Hp)(P:Af)(pq:Pos×Str):Prop:=∃ps:Ae (Pos×Str),H P=some (.tbl ps)/\ps[0]?=some pq
structure Zbh(q:Str)(params:Arguments)(body:Expr)(scope:Scope)(ns:List Str)(a:Addr)(dvs:List V)(s:Shared)(H:Hp)(fs:List Addr)(cl:List (Str×Addr))(pm:Value)(c':Addr)(ctv:Value)(oc:Obj):Prop where
 fn:s.heap.get? a=some (PySem.W.kla_obj "<lambda>" q params body scope cl pm c' ctv)
 free:H a=none
 nfs:a∉fs
 code:H c'=some (.frz oc (.cod q))
 inj:∀x y c,cl.lookup x=some c->cl.lookup y=some c->x=y
 has:∀x,(x,NameKind.free)∈scope.names->∃c,cl.lookup x=some c
 cell:∀x c,cl.lookup x=some c->(∃v,s.heap.IsCell c v)/\H c=none/\c∉fs
 len:dvs.length=ns.length
 vals:∀(i:Nat) n dv,ns[i]?=some n->dvs[i]?=some dv->∃c u,cl.lookup n=some c/\s.heap.IsCell c (some u)/\RelV dv u
end L2
namespace PD
open PySem PySem.Spec PyProof.Rows L2
def St(q:Str)(params:Arguments)(body:Ag)(scope:Scope)(ns:Ab Str)(a:Af)(dvs:Ab V)(s:Ac)(H:Hp)(fs:Ab Af):Prop:=∃cl pm c' ctv oc,Zbh q params body scope ns a dvs s H fs cl pm c' ctv oc
structure ZaI(P:Program)(w:World)(K:Frag)(mg:Str->Option Value)(base:Heap)(k:Nat)(f:Addr)(fd:FuncData)(ps:List Str)(n:Nat)(S:Addr->List V->Shared->Hp->List Addr->Prop)(mm:Addr->List V->List D->Option D):Prop where
 run:∀(A:Ai) (outer:Ab Env) (s:Ac) (H:Hp) (args:Args) (us:Ab Ad) (vs:Ab V) (Q:VK) (a:Af) (dvs:Ab V),Room k A->Env0 P w K mg base A outer s H->S a dvs s H (frs outer)->BindsTo s fd args (ps.zip us)->Vals vs us->spD K n (mm a dvs) vs H Q E0 ->
  codeAny (model P w) A (.call (.ref f) args) (CR CX0 outer P w H s Q E0) s
open Classical in
structure ZaK(P:Program)(w:World)(K:Frag)(mg:Str->Option Value)(base:Heap)(x:Str)(k n:Nat)(S:Addr->List V->Shared->Hp->List Addr->Prop)(mm:Addr->List V->List D->Option D):Prop where
 ex:∃fA fd ps,ZaI P w K mg base k fA fd ps n S mm/\mg x=some (.ref fA)/\keepIn K (.ref fA)=true/\Binds K fd ps []/\ps.length=n
structure Zbl(fd:FuncData)(base:Heap)(mg:Str->Option Value)(P:Addr):Prop where
 ex:∃c,fd.code=.ref c/\PySem.W.CodeHd base c P
 blt:base.BuiltinsAt mg P
structure Zbm(X:Cx)(P:Addr)(lpos:Pos)(q:Str):Prop where
 ex:∃c,X.env.code=.ref c/\PySem.W.CodeHd X.base c P
 blt:X.base.BuiltinsAt X.mg P
 tab:Z8q X.H₀ P (lpos,q)
 qual:X.env.qual ++ "<lambda>" = q
def spT(K:Frag)(P:Af)(pq:Pos×Str)(n:Nat)(f:Ab D->Aa D):Sp:=λvs H Q E=>Z8q H P pq/\spD K n f vs H Q E
structure ZaJ(P:Program)(w:World)(K:Frag)(mg:Str->Option Value)(base:Heap)(x:Str)(P₀:Addr)(pq:Pos×Str)(k n:Nat)(F':List D->Option D):Prop where
 ex:∃fA fd ps,gT P w K mg base CX0 k fA fd ps (spT K P₀ pq n F')/\mg x=some (.ref fA)/\keepIn K (.ref fA)=true/\Binds K fd ps []
def Hid(H:Hp)(D:Ab Af):Hp:=λb=>if b∈D then none else H b
def Unh(H H1:Hp)(D:Ab Af):Hp:=λb=>if b∈D then H b else H1 b
def nX{H:Hp}{D:Ab Af}{b:Af}(h:b∈D):Hid H D b=none:=if_pos h
def bN{H:Hp}{D:Ab Af}{b:Af}(h:b∉D):Hid H D b=H b:=if_neg h
def Z01{H H1:Hp}{D:Ab Af}{b:Af}(h:b∈D):Unh H H1 D b=H b:=if_pos h
def kZ{H H1:Hp}{D:Ab Af}{b:Af}(h:b∉D):Unh H H1 D b=H1 b:=if_neg h
def fY{H:Hp}{D:Ab Af}{b:Af}{o:HO}(h:Hid H D b=some o):b∉D/\H b=some o:=by
 unfold Hid at h;split at h
 .cases h
 .exact⟨‹_›,h⟩
structure Hd(H:Hp)(D:List Addr):Prop where
 kind:∀b∈D,(∃xs,H b=some (.lst xs))\/(∃C dx fs,H b=some (.ins C dx fs)/\dx∈D)\/∃x C fs,H x=some (.ins C b fs)/\H b=some (.own x)/\x∈D
def Hd.ex{H:Hp}{D:Ab Af}(h:Hd H D){b:Af}(a:b∈D):∃u,H b=some u/\(∀xs,u ≠ .tup xs)/\(∀o v,u ≠ .frz o v)/\∀ps,u ≠ .tbl ps:=by
 rcases h.kind b a with⟨xs,e⟩|⟨C,dx,fs,e,_⟩|⟨x,C,fs,_,e,_⟩<;>exact⟨_,e,by simp,by simp,by simp⟩
theorem Hd.tup{H:Hp}{D:Ab Af}(h:Hd H D){b:Af}{xs:Ab V}(e:H b=some (.tup xs)):b∉D:=λf=>by
 obtain⟨u,a,n,_⟩:=h.ex f;rw[e]at a;cases a;exact n _ rfl
theorem Hd.frz{H:Hp}{D:Ab Af}(h:Hd H D){b:Af}{o:Obj}{u:HO}(e:H b=some (.frz o u)):b∉D:=λf=>by
 obtain⟨u,a,_,n,_⟩:=h.ex f;rw[e]at a;cases a;exact n _ _ rfl
theorem Hd.tbl{H:Hp}{D:Ab Af}(h:Hd H D){b:Af}{ps:Ae (Pos×Str)}(e:H b=some (.tbl ps)):b∉D:=λf=>by
 obtain⟨u,a,_,_,n⟩:=h.ex f;rw[e]at a;cases a;exact n _ rfl
section
variable {X:Cx}{pins os:Ab (Af×Obj)}{σ:L2.St}{H H1:Hp}{s s1:Ac}{D:Ab Af}
theorem Z1I{h:Ah}:∀(D:Ab Af),(∀b∈D,∃o,h.get? b=some o/\∀v,o.data ≠ .cell v)->∃os:Ab (Af×Obj),(∀b∈D,∃o,(b,o)∈os)/\∀p∈os,p.1∈D/\h.get? p.1=some p.2/\∀v,p.2.data ≠ .cell v
 |[],_=>⟨[],λb hb=>(by cases hb),λp hp=>(by cases hp)⟩
 |b::D,hD=>by
  obtain⟨os,h1,h2⟩:=Z1I D λc hc=>hD c (Qaa _ hc);obtain⟨o,a,hc⟩:=hD b Qai;refine⟨(b,o)::os,λc hc'=>?_,λp hp=>?_⟩
  .rcases Qad.mp hc' with rfl|z
   .exact⟨o,Qai⟩
   .obtain⟨o',h'⟩:=h1 c z;exact⟨o',Qaa _ h'⟩
  .rcases Qad.mp hp with rfl|z
   .exact⟨Qai,a,hc⟩
   .exact⟨Qaa _ (h2 p z).1,(h2 p z).2⟩
def Z5b(I:Inv X pins σ H s)(a:Hd H D):∃os:Ab (Af×Obj),(∀b∈D,∃o,(b,o)∈os)/\(∀p∈os,p.1∈D/\s.heap.get? p.1=some p.2)/\Inv X (pins++os) σ (Hid H D) s:=by
 have i:∀b∈D,∃o,s.heap.get? b=some o/\∀v,o.data ≠ .cell v:=λb h=>by
  rcases a.kind b h with⟨xs,e⟩|⟨C,dx,fs,e,_⟩|⟨x,C,fs,e,_,_⟩
  .obtain⟨_,its,n,_,g⟩:=(show ObjOk X.prog X.w H s.heap b (.lst xs) from I.hok b _ e)
   exact⟨_,g,by simp⟩
  .obtain⟨_,_,_,g,_⟩:=(show ObjOk X.prog X.w H s.heap b (.ins C dx fs) from I.hok b _ e)
   exact⟨_,g,by simp[PySem.W.instObj]⟩
  .obtain⟨_,_,_,_,mA,⟨o,es,ep,g,J,_⟩,_⟩:=(show ObjOk X.prog X.w H s.heap x (.ins C b fs) from I.hok x _ e)
   exact⟨o,g,by rw[J];simp⟩
 obtain⟨os,h1,h2⟩:=Z1I D i;have L:∀b∈D,b∉X.fs:=λb h hf=>by
  obtain⟨_,o,K,_⟩:=I.ok.funs.mem hf;have:=I.base.free b o K (I.ok.frf b hf) λz=>I.ok.exfs b z hf;obtain⟨u,e,_⟩:=a.ex h;rw[this]at e;cases e
 have G:∀b∈D,b≠X.env.locals:=λb h z=>by
  obtain⟨u,e,_⟩:=a.ex h;rw[z,I.free]at e;cases e
 have none_of:∀{b:Af},H b=none->Hid H D b=none:=λ{b} e=>by unfold Hid;split<;>first|rfl|exact e
 refine⟨os,h1,λp hp=>⟨(h2 p hp).1,(h2 p hp).2.1⟩,I.ok,I.os,I.bare,⟨I.base.keep,I.base.slot,λb o e n A=>none_of (I.base.free b o e n A),I.base.there,λb xs e=>?_,λb o u e=>?_,λb ps e=>?_⟩,I.loc,I.cell,none_of I.free,λx c e=>none_of (I.freeC x c e),λp hp=>?_,λb u e=>?_,I.len⟩
 .have:=I.base.tups b xs e;rw[bN (a.tup this)];exact this
 .have:=I.base.frzs b o u e;rw[bN (a.frz this)];exact this
 .obtain⟨more,this⟩:=I.base.tbls b ps e;exact⟨more,by rw[bN (a.tbl this)];exact this⟩
 .rcases Qah.mp hp with z|z
  .obtain⟨f,t,l,y,B⟩:=I.pin p (Qan _ z);exact⟨f,none_of t,l,y,B⟩
  .rcases Qah.mp z with z|z
   .obtain⟨f,t,l,y,B⟩:=I.pin p (Qae _ z);exact⟨f,none_of t,l,y,B⟩
   .obtain⟨f,t,l⟩:=h2 p z;exact⟨t,nX f,G _ f,L _ f,l⟩
 .obtain⟨h,e⟩:=fY e;refine(I.hok b u e).stay (λ_ _ _ q=>q) (λb' q=>?_) (λb' xs q=>by rw[bN (a.tup q)];exact q) (λb' o q r=>by rw[bN (a.frz r)];exact r);have:b'∉D:=λE=>by
   rcases a.kind b' E with⟨xs,j⟩|⟨C,dx,fs,j,_⟩|⟨x,C,fs,j,F,A⟩
   .rw[q]at j;cases j
   .rw[q]at j;cases j
   .rw[q]at F;cases F;exact h A
  rw[bN this];exact q
def Z5a{j:L2.St}(l:Inv X pins j H s)(E:Hd H D)(h1:∀b∈D,∃o,(b,o)∈os)(h2:∀p∈os,p.1∈D/\s.heap.get? p.1=some p.2)(I:Inv X (pins++os) σ H1 s1)
  (Z:∀b xs,H b=some (.tup xs)->H1 b=some (.tup xs)) (hz:∀b o u,H b=some (.frz o u)->H1 b=some (.frz o u)) (L:∀b∈D,X.s₀.heap.get? b=none\/X.H₀ b≠none\/b∈X.ex):Inv X pins σ (Unh H H1 D) s1:=by
 have kept:∀b∈D,∀o,s.heap.get? b=some o->s1.heap.get? b=some o:=λb a o e=>by
  obtain⟨o',h⟩:=h1 b a;have i:s.heap.get? b=some o':=(h2 _ h).2;rw[e]at i;cases i;exact(I.pin (b,o) (Qae _ (Qae _ h))).1
 have J:∀{b:Af}{u:HO},H1 b=some u->b∉D:=λ{b u} e a=>by
  obtain⟨o',h⟩:=h1 b a;have:=(I.pin (b,o') (Qae _ (Qae _ h))).2.1;rw[show H1 b=none from this]at e;cases e
 have O:∀b∈D,b≠X.env.locals:=λb a=>by
  obtain⟨o',h⟩:=h1 b a;exact(I.pin (b,o') (Qae _ (Qae _ h))).2.2.1
 have f:∀{b:Af}{u:HO},H1 b=some u->Unh H H1 D b=some u:=λe=>by rw[kZ (J e)];exact e
 have t:∀x c,X.env.cells.lookup x=some c->c∉D:=λx c e hc=>by
  obtain⟨o',h⟩:=h1 c hc;obtain⟨S,_,_,_,U⟩:=I.pin (c,o') (Qae _ (Qae _ h));obtain⟨v,Y,y,R⟩:=I.cell x c e;rw[S]at y;cases y;exact U v R
 refine⟨I.ok,I.os,I.bare,⟨I.base.keep,I.base.slot,λb o e n B=>?_,I.base.there,λb xs e=>f (I.base.tups b xs e),λb o u e=>f (I.base.frzs b o u e),λb ps e=>?_⟩,I.loc,I.cell,?_,λx c e=>?_,λp hp=>?_,λb u e=>?_,I.len⟩
 .have:b∉D:=λa=>by
   rcases L b a with z|z|z
   .rw[e]at z;cases z
   .exact z n
   .exact B z
  rw[kZ this];exact I.base.free b o e n B
 .obtain⟨more,this⟩:=I.base.tbls b ps e;exact⟨more,f this⟩
 .rw[kZ (λz=>O _ z rfl)];exact I.free
 .rw[kZ (t x c e)];exact I.freeC x c e
 .have F:p∈X.pn++(pins++os):=by
   rcases Qah.mp hp with z|z
   .exact Qan _ z
   .exact Qae _ (Qan _ z)
  obtain⟨N,P,M,K,T⟩:=I.pin p F;refine⟨N,?_,M,K,T⟩;have a:p.1∉D:=λa=>by
   obtain⟨u,e,_⟩:=E.ex a;rw[(l.pin p hp).2.1]at e;cases e
  rw[kZ a];exact P
 .by_cases a:b∈D
  .rw[Z01 a]at e;rcases E.kind b a with⟨xs,i⟩|⟨C,dx,fs,i,A⟩|⟨x,C,fs,i,G,B⟩
   .rw[i]at e;cases e;obtain⟨z,its,n,r,g⟩:=(show ObjOk X.prog X.w H s.heap b (.lst xs) from l.hok b _ i)
    exact⟨z,its,n,r,kept b a _ g⟩
   .rw[i]at e;cases e;obtain⟨d,z,Q,g,mA,⟨W,es,ep,y,c⟩,r⟩:=(show ObjOk X.prog X.w H s.heap b (.ins C dx fs) from l.hok b _ i)
    exact⟨by rw[Z01 A];exact d,z,Q,kept b a _ g,mA,⟨W,es,ep,kept dx A _ y,c⟩,r⟩
   .rw[G]at e;cases e;obtain⟨o,g⟩:=(show ObjOk X.prog X.w H s.heap b (.own x) from l.hok b _ G)
    exact⟨o,kept b a _ g⟩
  .rw[kZ a]at e;exact(I.hok b u e).stay (λ_ _ _ q=>q) (λb' q=>f q) (λb' xs q=>f q) (λb' o q r=>f r)
end
def Z5V(H:Hp)(b:Af):Prop:=(∀xs,H b≠some (.tup xs))/\∀o u,H b≠some (.frz o u)
def oY(e:H b=some o)(h1:∀xs,o ≠ .tup xs)(h2:∀x u,o ≠ .frz x u):Z5V H b :=
 ⟨λxs z=>by rw[e]at z;cases z;exact h1 _ rfl,λx u z=>by rw[e]at z;cases z;exact h2 _ _ rfl⟩
mutual
theorem K2{K:Frag}{H:Hp}:∀(d:D) (v:V) (fp:Ab Af),Rep K true H d v fp->∀b∈fp,Z5V H b
 | .non,v,fp,h,b,hb=>by simp only[Rep]at h;rw[h.2]at hb;cases hb
 | .bl _,v,fp,h,b,hb=>by simp only[Rep]at h;rw[h.2]at hb;cases hb
 | .int _,v,fp,h,b,hb=>by simp only[Rep]at h;rw[h.2]at hb;cases hb
 | .str _,v,fp,h,b,hb=>by simp only[Rep]at h;rw[h.2]at hb;cases hb
 | .tup ds,v,fp,h,b,hb=>by
  simp only[Rep]at h;obtain⟨a,vs,e,hs,hr⟩:=h;exact reps_ntf ds vs fp hr b hb
 | .lst ds,v,fp,h,b,hb=>by
  simp only[Rep]at h;obtain⟨a,vs,fp',e,hr,hs⟩:=h;rcases hs with⟨rfl,hs⟩|⟨z,_⟩
  .rcases Qad.mp hb with rfl|hb
   .exact oY hs (by simp) (by simp)
   .exact reps_ntf ds vs fp' hr b hb
  .cases z
 | .obj C ns ds,v,fp,h,b,hb=>by
  simp only[Rep]at h;obtain⟨a,dx,vs,fp',e,rfl,hs,hd,hl,hr⟩:=h;rcases Qad.mp hb with rfl|hb
  .exact oY hs (by simp) (by simp)
  rcases Qad.mp hb with rfl|hb
  .exact oY hd (by simp) (by simp)
  .exact reps_ntf ds vs fp' hr b hb
 | .dk ks ds,v,fp,h,b,hb=>by
  simp only[Rep]at h;obtain⟨a,vs,fp',e,rfl,hs,hl,hr⟩:=h;rcases Qad.mp hb with rfl|hb
  .exact oY hs (by simp) (by simp)
  .exact reps_ntf ds vs fp' hr b hb
 | .dt ks ds,v,fp,h,b,hb=>by
  simp only[Rep]at h;obtain⟨a,es,ep,vs,fp',e,hk,hv,ht,hr,hs⟩:=h;rcases hs with⟨rfl,hs⟩|⟨z,_⟩
  .rcases Qad.mp hb with rfl|hb
   .exact oY hs (by simp) (by simp)
   .exact reps_ntf ds vs fp' hr b hb
  .cases z
 | .exc C,v,fp,h,b,hb=>by
  simp only[Rep]at h;obtain⟨a,e,rfl,hs⟩:=h;rw[Qay.mp hb];exact oY hs (by simp) (by simp)
 | .fn a vs ds,v,fp,h,b,hb=>by
  simp only[Rep]at h;exact reps_ntf ds vs fp h.2 b hb
theorem reps_ntf{K:Frag}{H:Hp}:∀(ds:Ab D) (vs:Ab V) (fp:Ab Af),Reps K true H ds vs fp->∀b∈fp,Z5V H b
 |[],vs,fp,h,b,hb=>by simp only[Reps]at h;rw[h.2]at hb;cases hb
 |d::ds,vs,fp,h,b,hb=>by
  simp only[Reps]at h;obtain⟨v,r,f1,f2,e1,rfl,h1,h2⟩:=h;rcases Qah.mp hb with hb|hb
  .exact K2 d v f1 h1 b hb
  .exact reps_ntf ds r f2 h2 b hb
end
def pln:D->Bool
 | .non=>true
 | .bl _=>true
 | .int _=>true
 | .str _=>true
 | .tup ds=>plns ds
 | .lst ds=>plns ds
 | .obj _ _ ds=>plns ds
 |_=>false
where plns:Ab D->Bool
 |[]=>true
 |d::ds=>pln d&&plns ds
def KndH(H:Hp)(b:Af)(fp:Ab Af):Prop:=(∃xs,H b=some (.lst xs))\/(∃C dx fs,H b=some (.ins C dx fs)/\dx∈fp)\/∃x C fs,H x=some (.ins C b fs)/\H b=some (.own x)/\x∈fp
def KndH.sub(h:KndH H b fp)(s:∀c∈fp,c∈fp'):KndH H b fp':=by
 rcases h with h|⟨C,dx,fs,e,m⟩|⟨x,C,fs,e,e2,m⟩
 .exact .inl h
 .exact .inr (.inl ⟨C,dx,fs,e,s _ m⟩)
 .exact .inr (.inr ⟨x,C,fs,e,e2,s _ m⟩)
mutual
theorem Z6z{K:Frag}{H:Hp}:∀(d:D) (v:V) (fp:Ab Af),pln d=true->Rep K true H d v fp->∀b∈fp,KndH H b fp
 | .non,v,fp,_,h,b,hb=>by simp only[Rep]at h;rw[h.2]at hb;cases hb
 | .bl _,v,fp,_,h,b,hb=>by simp only[Rep]at h;rw[h.2]at hb;cases hb
 | .int _,v,fp,_,h,b,hb=>by simp only[Rep]at h;rw[h.2]at hb;cases hb
 | .str _,v,fp,_,h,b,hb=>by simp only[Rep]at h;rw[h.2]at hb;cases hb
 | .tup ds,v,fp,p,h,b,hb=>by
  simp only[Rep]at h;obtain⟨a,vs,e,hs,hr⟩:=h;exact reps_knd ds vs fp (by simpa only [pln]using p) hr b hb
 | .lst ds,v,fp,p,h,b,hb=>by
  simp only[Rep]at h;obtain⟨a,vs,fp',e,hr,hs⟩:=h;rcases hs with⟨rfl,hs⟩|⟨z,_⟩
  .rcases Qad.mp hb with rfl|hb
   .exact .inl ⟨_,hs⟩
   .exact(reps_knd ds vs fp' (by simpa only [pln]using p) hr b hb).sub λc hc=>Qaa _ hc
  .cases z
 | .obj C ns ds,v,fp,p,h,b,hb=>by
  simp only[Rep]at h;obtain⟨a,dx,vs,fp',e,rfl,hs,hd,hl,hr⟩:=h;rcases Qad.mp hb with rfl|hb
  .exact .inr (.inl ⟨_,_,_,hs,Qaa _ Qai⟩)
  rcases Qad.mp hb with rfl|hb
  .exact .inr (.inr ⟨_,_,_,hs,hd,Qai⟩)
  .exact(reps_knd ds vs fp' (by simpa only [pln]using p) hr b hb).sub λc hc=>Qaa _ (Qaa _ hc)
 | .dk _ _,_,_,p,_,_,_=>by simp[pln]at p
 | .dt _ _,_,_,p,_,_,_=>by simp[pln]at p
 | .exc _,_,_,p,_,_,_=>by simp[pln]at p
 | .fn _ _ _,_,_,p,_,_,_=>by simp[pln]at p
theorem reps_knd{K:Frag}{H:Hp}:∀(ds:Ab D) (vs:Ab V) (fp:Ab Af),pln.plns ds=true->Reps K true H ds vs fp->∀b∈fp,KndH H b fp
 |[],vs,fp,_,h,b,hb=>by simp only[Reps]at h;rw[h.2]at hb;cases hb
 |d::ds,vs,fp,p,h,b,hb=>by
  simp only[Reps]at h;obtain⟨v,r,f1,f2,e1,rfl,h1,h2⟩:=h;simp only[pln.plns,Qam]at p;rcases Qah.mp hb with hb|hb
  .exact(Z6z d v f1 p.1 h1 b hb).sub λc hc=>Qan _ hc
  .exact(reps_knd ds r f2 p.2 h2 b hb).sub λc hc=>Qae _ hc
end
structure Hw(K:Frag)(H:Hp)(A:List Addr)(ws:List D)(fp:List Addr):Prop where
 rep:Reps K true H ws (A.map V.ref) fp
 nd:fp.Nodup
 pl:pln.plns ws=true
def Hw.hd{K:Frag}{H:Hp}{A:Ab Af}{ws:Ab D}{fp:Ab Af}(W:Hw K H A ws fp):Hd H fp:=⟨reps_knd _ _ _ W.pl W.rep⟩
def SInvG(K:Frag)(P H:Hp)(σ:L2.St)(env:En)(A:Ab Af)(ws:Ab D):Prop:=∃fp,Hw K H A ws fp/\SInv K P (Hid H fp) σ env
def F3(K:Frag)(P:Hp)(A:Ab Af)(E:uL)(r:Res)(ws:Ab D):Prop:=match r with
 | .next env=>∀σ H,SInvG K P H σ env A ws->E.nx σ H
 | .ret d=>∀v H fp fw,Hw K H A ws fw->Same P (Hid H fw)->Rep K true (Hid H fw) d v fp->(∀b∈fp,P b=none)->fp.Nodup->E.rt v H
 | .brk env=>∀σ H,SInvG K P H σ env A ws->E.bk σ H
 | .cont env=>∀σ H,SInvG K P H σ env A ws->E.ct σ H
 | .bad=>False
def Z3P(K:Frag)(A:Ab Af)(g:En->Ab D->Res×Ab D):TS:=λE σ H=>∃P env ws,SInvG K P H σ env A ws/\F3 K P A E (g env ws).1 (g env ws).2
def QSg(X:Cx)(A:Ab Af)(st:Stmt)(g:En->Ab D->Res×Ab D):Prop:=PS X st (Z3P X.K A g)
def QSsg(X:Cx)(A:Ab Af)(st:Ab Stmt)(g:En->Ab D->Res×Ab D):Prop:=PSs X st (Z3P X.K A g)
section
variable {X:Cx}{A:Ab Af}{st:Stmt}{pins os:Ab (Af×Obj)}{σ σ':L2.St}{P H H1:Hp}{s s1:Ac}{Dl:Ab Af}{ws:Ab D}{env:En}
def nA(P H:Hp):Hp:=λb=>match H b with
 |some (.tup xs)=>some (.tup xs)
 |some (.frz o u)=>some (.frz o u)
 |_=>P b
def qP:(nA P H b=H b/\((∃xs,H b=some (.tup xs))\/∃o u,H b=some (.frz o u)))\/(nA P H b=P b/\Z5V H b):=by
 unfold nA;cases e:H b with
 |none=>exact .inr ⟨rfl,λ_ z=>(by rw[e]at z;cases z),λ_ _ z=>(by rw[e]at z;cases z)⟩
 |some o=>cases o<;>first|exact .inl ⟨rfl,.inl ⟨_,rfl⟩⟩|exact .inl ⟨rfl,.inr ⟨_,_,rfl⟩⟩|exact .inr ⟨rfl,λ_ z=>(by rw[e]at z;cases z),λ_ _ z=>(by rw[e]at z;cases z)⟩
def Z3z(s:Same P H):Same (nA P H) H:=λb o e=>by
 rcases qP (P:=P) (H:=H) (b:=b)with⟨h,_⟩|⟨h,_⟩
 .rw[h]at e;exact e
 .rw[h]at e;exact s b o e
def Z7Z(s:Same P H):Same P (nA P H):=λb o e=>by
 rcases qP (P:=P) (H:=H) (b:=b)with⟨h,_⟩|⟨h,_⟩
 .rw[h];exact s b o e
 .rw[h];exact e
def Z5R(e:H b=some (.tup xs)):nA P H b=some (.tup xs):=by unfold nA;rw[e]
def Z5S(e:H b=some (.frz o u)):nA P H b=some (.frz o u):=by unfold nA;rw[e]
def Z2j{K:Frag}(I:SInv K P H σ env):SInv K (nA P H) H σ env:=by
 obtain⟨F,hF⟩:=I.ex;refine⟨Z3z I.same,I.len,F,hF.ok,λi d e=>?_⟩;obtain⟨l,j,f,n⟩:=hF.own i d e;refine⟨l,λb hb=>?_,f,n⟩;obtain⟨v,p,_⟩:=hF.ok i true d e;have a:=K2 _ _ _ (f v p) b hb;rcases qP (P:=P) (H:=H) (b:=b)with⟨_,⟨xs,h⟩|⟨o,u,h⟩⟩|⟨h,_⟩
 .exact absurd h (a.1 xs)
 .exact absurd h (a.2 o u)
 .rw[h];exact j b hb
def Z2i{K:Frag}{a:Hp}(I:SInv K a H σ env)(s:Same P a):SInv K P H σ env:=by
 obtain⟨F,hF⟩:=I.ex;refine⟨s.trans I.same,I.len,F,hF.ok,λi d e=>?_⟩;obtain⟨h,f,l,j⟩:=hF.own i d e;exact⟨h,λb hb=>s.free (f b hb),l,j⟩
def Z7I{K:Frag}(W:Hw K H A ws Dl)(h:∀b∈Dl,H1 b=none)(j:∀b xs,H b=some (.tup xs)->H1 b=some (.tup xs))(i:∀b o u,H b=some (.frz o u)->H1 b=some (.frz o u)):Hw K (Unh H H1 Dl) A ws Dl/\Hid (Unh H H1 Dl) Dl=H1:=by
 have f:∀{b:Af}{u:HO},H1 b=some u->Unh H H1 Dl b=some u:=λ{b u} e=>by
  rw[kZ (λz=>by rw[h b z]at e;cases e)];exact e
 refine⟨⟨Reps.keep _ _ _ ⟨λb a o e=>by rw[Z01 a];exact e,λb xs e=>f (j b xs e),λb o u e=>f (i b o u e)⟩ W.rep,W.nd,W.pl⟩,?_⟩;funext b;by_cases a:b∈Dl
 .rw[nX a,h b a]
 .rw[bN a,kZ a]
def Z0O(I:Inv X pins σ H s)(h:Hd H Dl):∀b∈Dl,X.s₀.heap.get? b=none\/X.H₀ b≠none\/b∈X.ex:=λb hb=>by
 by_cases f:b∈X.ex
 .exact .inr (.inr f)
 .cases e:X.s₀.heap.get? b with
  |none=>exact .inl rfl
  |some o =>
   refine .inr (.inl λz=>?_);have:=I.base.free b o e z f;obtain⟨u,a,_⟩:=h.ex hb;rw[this]at a;cases a
def Z8S{g:En->Res}(h:QS X st g):QSg X A st (λenv ws=>(g env,ws)):=by
 intro pins s σ H E I ⟨P,env,ws,⟨Dl,W,IS⟩,q⟩;obtain⟨os,h1,h2,O⟩:=Z5b I W.hd;have p:=Z7Z IS.same;have t:∀{H1:Hp},Same (nA P (Hid H Dl)) H1->(∀b xs,H b=some (.tup xs)->H1 b=some (.tup xs))/\∀b o u,H b=some (.frz o u)->H1 b=some (.frz o u):=λ{H1} sm=>⟨λb xs e=>sm _ _ (Z5R (by rw[bN (W.hd.tup e)];exact e)),λb o u e=>sm _ _ (Z5S (by rw[bN (W.hd.frz e)];exact e))⟩;have back:∀{σ':L2.St}{H1:Hp}{s1:Ac},Inv X (pins++os) σ' H1 s1->Same (nA P (Hid H Dl)) H1->Inv X pins σ' (Unh H H1 Dl) s1/\Hw X.K (Unh H H1 Dl) A ws Dl/\Hid (Unh H H1 Dl) Dl=H1:=λ{σ' H1 s1} J sm=>by
  obtain⟨G,M⟩:=t sm;have N:∀b∈Dl,H1 b=none:=λb hb=>by
   obtain⟨o',Q⟩:=h1 b hb;exact(J.pin (b,o') (Qae _ (Qae _ Q))).2.1
  exact⟨Z5a I W.hd h1 h2 J G M (Z0O I W.hd),Z7I W N G M⟩
 let L:uL:=⟨λσ1 H1=>∃e1,SInv X.K (nA P (Hid H Dl)) H1 σ1 e1/\g env=Res.next e1,λv H1=>∃d f1,Same (nA P (Hid H Dl)) H1/\Rep X.K true H1 d v f1/\(∀b∈f1,nA P (Hid H Dl) b=none)/\f1.Nodup/\g env=Res.ret d,
  λσ1 H1=>∃e1,SInv X.K (nA P (Hid H Dl)) H1 σ1 e1/\g env=Res.brk e1,λσ1 H1=>∃e1,SInv X.K (nA P (Hid H Dl)) H1 σ1 e1/\g env=Res.cont e1⟩
 have B:Post X.K (nA P (Hid H Dl)) L (g env):=by
  cases a:g env with
  |next i=>exact λσ' H1 J=>⟨i,J,a⟩
  |ret d=>exact λv H1 n w F C y=>⟨d,n,w,F,C,y,a⟩
  |brk i=>exact λσ' H1 J=>⟨i,J,a⟩
  |cont i=>exact λσ' H1 J=>⟨i,J,a⟩
  |bad=>simp only[a]at q;exact q
 refine thn (h (pins++os) s σ (Hid H Dl) L O ⟨_,env,Z2j IS,B⟩) λf s1 hf=>?_;have step:∀{σ':L2.St}{H1:Hp}{i:En},Inv X (pins++os) σ' H1 s1->SInv X.K (nA P (Hid H Dl)) H1 σ' i->Inv X pins σ' (Unh H H1 Dl) s1/\SInvG X.K P (Unh H H1 Dl) σ' i A ws:=λ{σ' H1 i} J S=>by
  obtain⟨l,j,x⟩:=back J S.same;exact⟨l,Dl,j,by rw[x];exact Z2i S p⟩
 cases f with
 |next =>
  obtain⟨σ',H1,J,i,S,a⟩:=hf;obtain⟨l,j⟩:=step J S;simp only[a]at q;exact⟨σ',_,l,q _ _ j⟩
 |brk =>
  obtain⟨σ',H1,J,i,S,a⟩:=hf;obtain⟨l,j⟩:=step J S;simp only[a]at q;exact⟨σ',_,l,q _ _ j⟩
 |cont =>
  obtain⟨σ',H1,J,i,S,a⟩:=hf;obtain⟨l,j⟩:=step J S;simp only[a]at q;exact⟨σ',_,l,q _ _ j⟩
 |ret u =>
  obtain⟨v,σ',H1,J,r,d,n,w,F,C,y,a⟩:=hf;obtain⟨l,j,x⟩:=back J w;simp only[a]at q;exact⟨v,σ',_,l,r,q v _ n Dl j (by rw[x];exact p.trans w) (by rw[x];exact F) (λb hb=>p.free (C b hb)) y⟩
end
section
variable {K:Frag}{P H H':Hp}{σ:L2.St}{env:En}{F:Nat->Ab Af}{d:D}{v:V}{fp fw:Ab Af}{A:Ab Af}{ws:Ab D}
def P4{α:Type}{l:Ab (Aa α)}{x:α}{i:Nat}(e:(l++[none])[i]?=some (some x)):l[i]?=some (some x):=by
 rw[List.getElem?_append]at e;split at e
 .exact e
 .cases h:i-l.length with
  |zero=>rw[h]at e;cases e
  |succ n=>rw[h]at e;cases e
def gN{α:Type}{l:Ab α}{x y:α}{i:Nat}(e:l[i]?=some x):(l++[y])[i]?=some x:=by
 obtain⟨h,_⟩:=Qac.mp e;rw[QaB h];exact e
def jZ{α:Type}{l:Ab α}{x:α}{i:Nat}(e:l[i]?=some x):i<l.length:=(Qac.mp e).1
def Q6(h:l.length=n):(l++[x]).set n y=l++[y]:=by subst h;simp
def EnvS.app(n:σ.length=env.length)(h:EnvS K P H σ env F):EnvS K P H (σ++[none]) (env++[none]) F:=by
 refine⟨λi o d e=>?_,λi d e=>?_⟩
 .obtain⟨v,h1,h2⟩:=h.ok i o d (P4 e);exact⟨v,gN h1,h2⟩
 .obtain⟨l,a,f,b⟩:=h.own i d (P4 e);exact⟨l,a,λv hv=>f v (P4 hv),λj s hj ej=>b j s hj (P4 ej)⟩
def oQ(f:Same P H)(a:σ.length=env.length)(h:EnvS K P H σ env F)(s:Same H H')(r:Rep K true H' d v fp)(i:fp.Nodup)(fr:∀b∈fp,H b=none):SInv K P H' (σ++[some v]) (env++[some (true,d)]):=by
 have:=oP (σ:=σ++[none]) (env:=env++[none]) env.length f (by simp[a]) (h.app a) s r i fr;rw[Q6 a,Q6 rfl]at this;exact this
def Q5(h:SInv K P H (σ++[x]) (env++[y])):SInv K P H σ env:=by
 have a:σ.length=env.length:=by have:=h.len;simpa using this
 obtain⟨F,hF⟩:=h.ex;refine⟨h.same,a,F,λi o d e=>?_,λi d e=>?_⟩
 .obtain⟨v,h1,h2⟩:=hF.ok i o d (gN e);rw[QaB (by rw[a];exact jZ e)]at h1;exact⟨v,h1,h2⟩
 .obtain⟨n,b,l,f⟩:=hF.own i d (gN e);exact⟨n,b,λv hv=>l v (gN hv),λj s hj ej=>f j s hj (gN ej)⟩
def lY(h:SInv K P H (σ++[some v]) (env++[some (true,d)])):∃fp,Rep K true H d v fp/\fp.Nodup/\∀b∈fp,P b=none:=by
 have i:σ.length=env.length:=by have:=h.len;simpa using this
 obtain⟨F,hF⟩:=h.ex;have e:(env++[some (true,d)])[env.length]?=some (some (true,d)):=by simp
 obtain⟨j,a,f,_⟩:=hF.own _ _ e;exact⟨_,f v (by rw[<- i];simp),j,a⟩
def A9(i:Nat)(h:SInv K P H (σ++[some v]) (env++[some (true,d)])):SInv K P H (σ.set i (some v)) (env.set i (some (true,d))):=by
 have l:σ.length=env.length:=by have:=h.len;simpa using this
 by_cases hi:i<env.length
 .obtain⟨F,hF⟩:=h.ex;have p:(env++[some (true,d)])[env.length]?=some (some (true,d)):=by simp
  have sn:(σ++[some v])[env.length]?=some (some v):=by rw[<- l];simp
  obtain⟨A,t,q,r⟩:=hF.own _ _ p;refine⟨h.same,by simp[l],Z0X F i (F env.length),λj o d' e=>?_,λj d' e=>?_⟩
  .rw[cS hi]at e;by_cases a:j=i
   .subst a;rw[if_pos rfl]at e;cases e;exact⟨v,Qaw (by omega),by rw[cH];exact Rep.weak _ _ _ (q v sn)⟩
   .rw[if_neg a]at e;obtain⟨w,h1,h2⟩:=hF.ok j o d' (gN e);rw[QaB (by rw[l];exact jZ e)]at h1;exact⟨w,by rw[Qak (Ne.symm a)];exact h1,by rw[bH a];exact h2⟩
  .rw[cS hi]at e;by_cases a:j=i
   .subst a;rw[if_pos rfl]at e;cases e;rw[cH];refine⟨A,t,λw hw=>?_,λk s' hk ek b hb=>?_⟩
    .rw[Qaw (by omega)]at hw;cases hw;exact q v sn
    .rw[cS hi,if_neg hk]at ek;rw[bH hk];exact r k s' (QaK (jZ ek)) (gN ek) b hb
   .rw[if_neg a]at e;obtain⟨x,y,u,n⟩:=hF.own j d' (gN e);rw[bH a];refine⟨x,y,λw hw=>?_,λk s' hk ek b hb=>?_⟩
    .rw[Qak (Ne.symm a)]at hw;exact u w (gN hw)
    .rw[cS hi]at ek;by_cases f:k=i
     .subst f;rw[cH];exact n env.length _ (Nat.ne_of_gt (jZ e)) p b hb
     .rw[if_neg f]at ek;rw[bH f];exact n k s' hk (gN ek) b hb
 .rw[QaM (by omega),QaM (by omega)];exact Q5 h
def jC(s:Same H H'):Same (Hid H fw) (Hid H' fw):=λb o e=>by
 obtain⟨h1,h2⟩:=fY e;rw[bN h1];exact s _ _ h2
def hid_le:Same (Hid H fw) H:=λb o e=>(fY e).2
def Hd.same(h:Hd H D')(s:Same H H'):Hd H' D':=⟨λb hb=>by
 rcases h.kind b hb with⟨xs,e⟩|⟨C,dx,fs,e,m⟩|⟨x,C,fs,e,a,m⟩
 .exact .inl ⟨xs,s _ _ e⟩
 .exact .inr (.inl ⟨C,dx,fs,s _ _ e,m⟩)
 .exact .inr (.inr ⟨x,C,fs,s _ _ e,s _ _ a,m⟩)⟩
def Z1u{st:Bool}(hd:Hd H fw)(r:Rep K st H d v fp)(a:∀b∈fp,b∉fw):Rep K st (Hid H fw) d v fp :=
 Rep.keep _ _ _ ⟨λb hb o e=>by rw[bN (a b hb)];exact e,λb xs e=>by rw[bN (hd.tup e)];exact e,λb o u e=>by rw[bN (hd.frz e)];exact e⟩ r
theorem Hw.same(W:Hw K H A ws fw)(s:Same H H'):Hw K H' A ws fw:=⟨W.rep.same s,W.nd,W.pl⟩
theorem Hw.dom(W:Hw K H A ws fw):∀b∈fw,∃o,H b=some o:=Reps.dom _ _ _ W.rep
theorem SInvG.grow(I:SInvG K P H σ env A ws)(s:Same H H'):SInvG K P H' σ env A ws:=by
 obtain⟨fw,W,a⟩:=I;exact⟨fw,W.same s,a.grow (jC s)⟩
def SInvG.push(I:SInvG K P H σ env A ws)(s:Same H H')(r:Rep K true H' d v fp)(h:fp.Nodup)(fr:∀b∈fp,H b=none):SInvG K P H' (σ++[some v]) (env++[some (true,d)]) A ws:=by
 obtain⟨fw,W,a⟩:=I;obtain⟨F,hF⟩:=a.ex;have f:∀b∈fp,b∉fw:=λb hb z=>by
  obtain⟨o,e⟩:=W.dom b z;rw[fr b hb]at e;cases e
 exact⟨fw,W.same s,oQ a.same a.len hF (jC s) (Z1u (W.hd.same s) r f) h λb hb=>by rw[bN (f b hb)];exact fr b hb⟩
def SInvG.pop(I:SInvG K P H (σ++[x]) (env++[y]) A ws):SInvG K P H σ env A ws:=by
 obtain⟨fw,W,a⟩:=I;exact⟨fw,W,Q5 a⟩
def SInvG.move(i:Nat)(I:SInvG K P H (σ++[some v]) (env++[some (true,d)]) A ws):SInvG K P H (σ.set i (some v)) (env.set i (some (true,d))) A ws:=by
 obtain⟨fw,W,a⟩:=I;exact⟨fw,W,A9 i a⟩
def SInvG.eok(I:SInvG K P H σ env A ws):∃F,EnvOk K H σ env F:=by
 obtain⟨fw,W,a⟩:=I;obtain⟨F,hF⟩:=a.ex;exact⟨F,hF.ok.same hid_le⟩
open Classical in
def opn(a:Af)(w:D)(env:En):En:=env.map λs=>match s with
 |some (o,d)=>if d=.fn a [] [] then some (false,w) else some (o,d)
 |none=>none
theorem SInvG.opn(I:SInvG K P H σ env [a] [w]):∃F,EnvOk K H σ (PD.opn a w env) F:=by
 classical
 obtain⟨fw,W,j⟩:=I;obtain⟨F,hF⟩:=j.ex;have b:=W.rep;simp only[Qat,QaV,Reps]at b;obtain⟨l,q,f1,x,h,u,h1,t,y⟩:=b;cases h;refine⟨λi=>if ∃o,env[i]?=some (some (o,.fn a [] [])) then f1 else F i,λi o d e=>?_⟩;unfold PD.opn at e;rw[QaD]at e;cases hi:env[i]? with
 |none=>rw[hi]at e;cases e
 |some s =>
  cases s with
  |none=>rw[hi]at e;cases e
  |some p =>
   obtain⟨o',d'⟩:=p;rw[hi]at e;obtain⟨v,f,r⟩:=hF.ok i o' d' hi;simp only[QaH]at e;by_cases hd:d'=.fn a [] []
   .rw[if_pos hd]at e;cases e;subst hd;simp only[Rep]at r;refine⟨v,f,?_⟩;show Rep K false H w v (if ∃o,env[i]?=some (some (o,D.fn a [] [])) then f1 else F i);rw[if_pos ⟨o',hi⟩,r.1];exact Rep.weak _ _ _ h1
   .rw[if_neg hd]at e;cases e;refine⟨v,f,?_⟩;show Rep K false H d v (if ∃o,env[i]?=some (some (o,D.fn a [] [])) then f1 else F i);rw[if_neg (λ⟨n,z⟩=>by rw[hi]at z;cases z;exact hd rfl)];exact r.same hid_le
end
def tDg(K:Frag)(A:Ab Af)(f:En->Ab D->Aa (D×Ab D)):TE:=λσ H Q=>∃P env ws d ws',SInvG K P H σ env A ws/\f env ws=some (d,ws')/\∀v H',SInvG K P H' (σ++[some v]) (env++[some (true,d)]) A ws'->Q v H'
def Z9Q(K:Frag)(A:Ab Af)(f:En->Ab D->Aa (Bool×Ab D)):TT:=λσ H Q=>∃P env ws b ws',SInvG K P H σ env A ws/\f env ws=some (b,ws')/\∀H',SInvG K P H' σ env A ws'->Q b H'
def QEg(X:Cx)(A:Ab Af)(e:Ag)(f:En->Ab D->Aa (D×Ab D)):Prop:=PE X e (tDg X.K A f)
def QTg(X:Cx)(A:Ab Af)(e:Ag)(f:En->Ab D->Aa (Bool×Ab D)):Prop:=PT X e (Z9Q X.K A f)
section
variable {X:Cx}{A:Ab Af}{a:Af}{e c:Ag}{st:Stmt}{sts sa sb:Ab Stmt}{f:En->Aa D}{f':En->Ab D->Aa (D×Ab D)}{b:En->Aa Bool}{b':En->Ab D->Aa (Bool×Ab D)}{g h:En->Ab D->Res×Ab D}{pos:Pos}
def QEg.mk(h:PE X e t)(hi:∀σ H Q,tDg X.K A f' σ H Q->t σ H Q):QEg X A e f':=λpins s σ H Q I q=>h pins s σ H Q I (hi σ H Q q)
def QTg.mk(h:PT X e t)(hi:∀σ H Q,Z9Q X.K A b' σ H Q->t σ H Q):QTg X A e b':=λpins s σ H Q I q=>h pins s σ H Q I (hi σ H Q q)
def QSg.mk(h:PS X st t)(hi:∀E σ H,Z3P X.K A g E σ H->t E σ H):QSg X A st g:=λpins s σ H E I q=>h pins s σ H E I (hi E σ H q)
def QSsg.mk(h:PSs X sts t)(hi:∀E σ H,Z3P X.K A g E σ H->t E σ H):QSsg X A sts g:=λpins s σ H E I q=>h pins s σ H E I (hi E σ H q)
def gPl(f:En->Aa D):En->Ab D->Aa (D×Ab D):=λenv ws=>(f env).map λd=>(d,ws)
def Z8X(h:QE X true [] e f):QEg X A e (gPl f):=.mk h λσ H Q ⟨P,env,ws,d,ws',I,e,q⟩=>by
 obtain⟨F,hF⟩:=I.eok;unfold gPl at e;cases a:f env with
 |none=>rw[a]at e;cases e
 |some d' =>
  rw[a]at e;cases e;exact⟨env,F,d,hF,a,λv H' fp s r c=>q v H' (I.push s r (c.2 rfl).1 (c.2 rfl).2)⟩
def gOp(a:Af)(f:En->Aa D):En->Ab D->Aa (D×Ab D):=λenv ws=>match ws with
 |[w]=>(f (opn a w env)).map λd=>(d,[w])
 |_=>none
def Z4t(h:QE X true [] e f):QEg X [a] e (gOp a f):=.mk h λσ H Q ⟨P,env,ws,d,ws',I,e,q⟩=>by
 unfold gOp at e;split at e
 .rename_i w;obtain⟨F,hF⟩:=I.opn;cases b:f (opn a w env) with
  |none=>rw[b]at e;cases e
  |some d' =>
   rw[b]at e;cases e;exact⟨_,F,d,hF,b,λv H' fp s r c=>q v H' (I.push s r (c.2 rfl).1 (c.2 rfl).2)⟩
 .cases e
def yG(f:En->Aa Bool):En->Ab D->Aa (Bool×Ab D):=λenv ws=>(f env).map λd=>(d,ws)
def Z0o(h:QT X e b):QTg X A e (yG b):=.mk h λσ H Q ⟨P,env,ws,d,ws',I,e,q⟩=>by
 obtain⟨F,hF⟩:=I.eok;unfold yG at e;cases a:b env with
 |none=>rw[a]at e;cases e
 |some d' =>
  rw[a]at e;cases e;exact⟨env,F,d,hF,a,λH' s=>q H' (I.grow s)⟩
def cD(g h:En->Ab D->Res×Ab D):En->Ab D->Res×Ab D:=λenv ws=>match g env ws with
 |(.next env',ws')=>h env' ws'
 |r=>r
def xE:QSsg X A [] (λenv ws=>(.next env,ws)):=.mk vX λE σ H ⟨P,env,ws,I,q⟩=>q σ H I
def kE(h1:QSg X A st g):QSsg X A [st] g:=.mk (oV h1) λE σ H q=>q
def bR(h1:QSg X A st g)(h2:QSsg X A sts h):QSsg X A (st::sts) (cD g h):=.mk (kG h1 h2) λE σ H ⟨P,env,ws,I,q⟩=>by
 refine⟨P,env,ws,I,?_⟩;unfold cD at q;cases a:g env ws with
 |mk r ws' =>
  rw[a]at q;cases r with
  |next env'=>exact λσ' H' I'=>⟨P,env',ws',I',q⟩
  |ret d=>exact q
  |brk _=>exact q
  |cont _=>exact q
  |bad=>exact q
def nF(c:En->Ab D->Aa (Bool×Ab D))(g h:En->Ab D->Res×Ab D):En->Ab D->Res×Ab D:=λenv ws=>match c env ws with
 |some (true,ws')=>g env ws'
 |some (false,ws')=>h env ws'
 |none=>(.bad,ws)
def Z0q(hc:QTg X A c b')(a:QSsg X A sa g)(b:QSsg X A sb h):QSg X A (.If c sa sb pos) (nF b' g h):=.mk (Z1G hc a b) λE σ H ⟨P,env,ws,I,q⟩=>by
 unfold nF at q;split at q
 .rename_i ws' h1;exact⟨P,env,ws,true,ws',I,h1,λH' I'=>zN ⟨P,env,ws',I',q⟩⟩
 .rename_i ws' h1;exact⟨P,env,ws,false,ws',I,h1,λH' I'=>zO ⟨P,env,ws',I',q⟩⟩
 .exact q.elim
def qY(f:En->Ab D->Aa (D×Ab D)):En->Ab D->Res×Ab D:=λenv ws=>match f env ws with
 |some (d,ws')=>(.ret d,ws')
 |none=>(.bad,ws)
def vV(he:QEg X A e f'):QSg X A (.Return (some e) pos) (qY f'):=.mk (jH he) λE σ H ⟨P,env,ws,I,q⟩=>by
 unfold qY at q;split at q
 .rename_i d ws' h1;refine⟨P,env,ws,d,ws',I,h1,λv H' ⟨fw,W,IS⟩=>?_⟩;obtain⟨fp,r,a,fr⟩:=lY IS;exact q v H' fp fw W IS.same r fr a
 .exact q.elim
end
theorem qB{K:Frag}{st:Bool}{H:Hp}:∀{ws1 ws2:Ab D}{w:D}{vs:Ab V}{fp:Ab Af},Reps K st H (ws1++w::ws2) vs fp->∃a v b f1 f i,vs=a++v::b/\a.length=ws1.length/\fp=f1++(f++i)/\Reps K st H ws1 a f1/\Rep K st H w v f/\Reps K st H ws2 b i
 |[],ws2,w,vs,fp,h=>by
  simp only[Qbq,Reps]at h;obtain⟨v,r,f1,i,rfl,rfl,h1,h2⟩:=h;exact⟨[],v,r,[],f1,i,rfl,rfl,rfl,iV,h1,h2⟩
 |x::ws1,ws2,w,vs,fp,h=>by
  simp only[Qa3,Reps]at h;obtain⟨v,r,f1,i,rfl,rfl,h1,h2⟩:=h;obtain⟨a,j,b,p,f,n,rfl,q,rfl,t,l,o⟩:=qB h2;exact⟨v::a,j,b,f1++p,f,n,rfl,by simp[q],by simp,Reps.consR h1 t,l,o⟩
theorem nP:∀{a b:Ab D},pln.plns (a++b)=(pln.plns a&&pln.plns b)
 |[],b=>by simp[pln.plns]
 |x::a,b=>by simp[pln.plns,nP (a:=a) (b:=b),Bool.and_assoc]
section
variable {K:Frag}{P H H':Hp}{σ:L2.St}{env:En}{F:Nat->Ab Af}{d w w':D}{v:V}{fp f:Ab Af}{A1 A2:Ab Af}{ws1 ws2:Ab D}{a:Af}
def hw_one:Hw K H [a] [w] f↔Rep K true H w (.ref a) f/\f.Nodup/\pln w=true:=by
 constructor
 .intro h;have b:=h.rep;simp only[Qat,QaV,Reps]at b;obtain⟨q,n,f1,p,l,i,h1,o,j⟩:=b;cases l;subst j;rw[QaP]at i;subst i;have:=h.pl;simp only[pln.plns,Bool.and_true]at this;exact⟨h1,h.nd,this⟩
 .intro⟨h1,h2,h3⟩;refine⟨?_,h2,by simp[pln.plns,h3]⟩;have:=Reps.consR h1 (iV (K:=K) (m:=true) (H:=H));rw[QaP]at this;exact this
def Z3a(Y:A1.length=ws1.length)(W:Hw K H (A1++a::A2) (ws1++w::ws2) fp)(t:SInv K P (Hid H fp) σ env) :
  ∃f,Hw K H [a] [w] f/\(∀b∈f,b∈fp) /\
   ∀H' v d w',SInvG K (Hid H f) H' [some v] [some (true,d)] [a] [w']->SInvG K P H' (σ++[some v]) (env++[some (true,d)]) (A1++a::A2) (ws1++w'::ws2):=by
 obtain⟨M,nd,pl⟩:=W;obtain⟨vs1,v0,vs2,f1,f,i,E,el,rfl,A,r,B⟩:=qB M;rw[QaI,Qat]at E;obtain⟨Z,e2⟩:=List.append_inj E (by simp[el,Y]);cases e2;subst Z;simp only[nP,pln.plns,Qam]at pl;obtain⟨n1,O,L⟩:=Qar.mp nd;obtain⟨C,S,n6⟩:=Qar.mp O;have n:∀b∈f1,b∉f:=λb h1 h2=>L b h1 b (Qan _ h2) rfl;have p:∀b∈i,b∉f:=λb h1 h2=>n6 b h2 b h1 rfl;refine⟨f,hw_one.mpr ⟨r,C,pl.2.1⟩,λb hb=>Qae _ (Qan _ hb),λH' v d w' ⟨f',W',IS'⟩=>?_⟩;obtain⟨s1,T,s3⟩:=hw_one.mp W';obtain⟨G,rv,J,j⟩:=lY (σ:=[]) (env:=[]) IS';have Q:=IS'.same;have step:∀{b:Af}{o:HO},b∉f->H b=some o->b∉f'/\H' b=some o:=λ{b o} hb e=>fY (Q b o (by rw[bN hb];exact e));have l:Hd H f:=(hw_one.mpr ⟨r,C,pl.2.1⟩:Hw K H [a] [w] f).hd;have I:∀{g:Ab Af},(∀b∈g,b∉f)->Kp g H H':=λ{g} ap=>⟨λb hb o e=>(step (ap b hb) e).2,λb xs e=>(step (l.tup e) e).2,λb o u e=>(step (l.frz e) e).2⟩;have X:=Reps.keep _ _ _ (I n) A;have R2:=Reps.keep _ _ _ (I p) B;have R:∀b∈f1,b∉f':=λb hb=>by
  obtain⟨o,e⟩:=Reps.dom _ _ _ A b hb;exact(step (n b hb) e).1
 have N:∀b∈i,b∉f':=λb hb=>by
  obtain⟨o,e⟩:=Reps.dom _ _ _ B b hb;exact(step (p b hb) e).1
 have q:Hw K H' (A1++a::A2) (ws1++w'::ws2) (f1++(f'++i)):=by
  refine⟨?_,?_,by simp only[nP,pln.plns,Qam];exact⟨pl.1,s3,pl.2.2⟩⟩
  .rw[QaI,Qat];exact X.append (Reps.consR s1 R2)
  .refine Qar.mpr ⟨n1,Qar.mpr ⟨T,S,λx hx y hy z=>N y hy (z ▸ hx)⟩,λx hx y hy z=>?_⟩;rcases Qah.mp hy with hy|hy
   .exact R x hx (z ▸ hy)
   .exact L x hx y (Qae _ hy) z
 obtain⟨F,hF⟩:=t.ex;have v1:∀b∈G,b∉f1:=λb hb h=>by
  obtain⟨o,e⟩:=Reps.dom _ _ _ A b h;have:=j b hb;rw[bN (n b h),e]at this;cases this
 have U:∀b∈G,b∉i:=λb hb h=>by
  obtain⟨o,e⟩:=Reps.dom _ _ _ B b h;have:=j b hb;rw[bN (p b h),e]at this;cases this
 refine⟨_,q,oQ (H:=Hid H (f1++(f++i))) t.same t.len hF (λb o e=>?_) (Rep.keep _ _ _ ⟨λb hb o e=>?_,λb xs e=>?_,λb o u e=>?_⟩ rv) J λb hb=>?_⟩
 .obtain⟨h1,h2⟩:=fY e;have nf:b∉f:=λz=>h1 (Qae _ (Qan _ z));obtain⟨h3,h4⟩:=step nf h2;rw[bN λz=>?_]
  .exact h4
  .rcases Qah.mp z with z|z
   .exact h1 (Qan _ z)
   .rcases Qah.mp z with z|z
    .exact h3 z
    .exact h1 (Qae _ (Qae _ z))
 .obtain⟨h1,h2⟩:=fY e;rw[bN λz=>?_]
  .exact h2
  .rcases Qah.mp z with z|z
   .exact v1 b hb z
   .rcases Qah.mp z with z|z
    .exact h1 z
    .exact U b hb z
 .rw[bN (q.hd.tup (fY e).2)];exact(fY e).2
 .rw[bN (q.hd.frz (fY e).2)];exact(fY e).2
 .by_cases h:b∈f1++(f++i)
  .exact nX h
  .have:=j b hb;rw[bN λz=>h (Qae _ (Qan _ z))]at this;rw[bN h];exact this
def Z5u:EnvS K P H [] [] (λ_=>[]):=⟨λi o d e=>by simp at e,λi d e=>by simp at e⟩
def qT(s:Same P H)(r:Rep K true H d v f)(a:f.Nodup)(fr:∀b∈f,P b=none):SInv K P H [some v] [some (true,d)] :=
 oQ (σ:=[]) (env:=[]) (Same.refl P) rfl Z5u s r a fr
end
def spG(K:Frag)(n:Nat)(g:Af->D->Ab D->Aa (D×D)):Sp:=λvs H Q _=>∃a us w ds fw fps d w',vs=.ref a::us/\ds.length=n/\Hw K H [a] [w] fw/\Reps K false (Hid H fw) ds us fps/\g a w ds=some (d,w') /\
 ∀v H',SInvG K (Hid H fw) H' [some v] [some (true,d)] [a] [w']->Q v H'
def Z6e{K:Frag}{n:Nat}{g:Af->D->Ab D->Aa (D×D)}{vs:Ab V}{H:Hp}{Q:VK}{E:XK}(h:spG K n g vs H Q E):vs.length=n+1:=by
 obtain⟨a,us,w,ds,fw,b,d,w',rfl,h1,_,h2,_⟩:=h;rw[Qaf,h2.length,h1]
def wW(L:Nat)(G:Af->En->Ab D->Res×Ab D)(a:Af)(w:D)(ds:Ab D):Aa (D×D):=match G a (enStart L (.fn a [] []::ds)) [w] with
 |(.ret d,[w'])=>some (d,w')
 |(.next _,[w'])=>some (.non,w')
 |_=>none
def FunD.okG{P:Aj}{w:Ak}{K:Frag}{mg:Str->Aa Ad}{base:Ah}{x qual:Str}{st:Stmt}{f:Af}{fd:FuncData}{N ps:Ab Str}{k n L:Nat}{G:Af->En->Ab D->Res×Ab D}(F:FunD K x qual st f fd)(S:eT N ps (aR st))(t:ps.length=n+1)(y:N.length=L)
  (l:∀(a:Af) (i:Ad) (A:Ai) (outer:Ab Env) (s:Ac) (H:Hp) (E:XK),Room k (A.deeper (envOfC qual (aR st) s.heap.objs.size f i))->QSsg (uH CX0 P w K mg base N qual (aR st) f i A outer s H E).nox [a] (cB st) (G a)) :
  gT P w K mg base CX0 (k+1) f fd ps (spG K n (wW L G)):=by
 subst y;obtain⟨M,T,O,kV,I,R,an,i,ct,C,rfl,u,o⟩:=F.ex;refine X4 u o S (λvs H Q E h=>(Z6e h).trans t.symm) λA outer s H vs Q E hr hsp=>?_;obtain⟨a,us,w,ds,fw,p,d,w',rfl,h1,W,h2,h3,q⟩:=hsp;have hq:=l a i A outer s H E hr;have hs:Reps K false (Hid H fw) (.fn a [] []::ds) (.ref a::us) ([]++p):=Reps.consR (by simp only[Rep];exact⟨trivial,iV⟩) h2;refine⟨_,PSs.nox hq,Hid H fw,enStart N.length (.fn a [] []::ds),[w],⟨fw,W,mL hs⟩,?_⟩;unfold wW at h3;split at h3
 .rename_i d' B j;cases h3;simp only[j];exact λv H' fp fw' W' s' r fr nd=>q v H' ⟨fw',W',qT s' r nd fr⟩
 .rename_i J B j;cases h3;simp only[j];exact λσ' H' ⟨fw',W',I'⟩=>q .non H' ⟨fw',W',qT I'.same mQ Qaz (λb l=>(by cases l))⟩
 .cases h3
structure sK(P:Program)(w:World)(K:Frag)(mg:Str->Option Value)(base:Heap)(x:Str)(k n:Nat)(g:Addr->D->List D->Option (D×D)):Prop where
 ex:∃fA fd ps,gT P w K mg base CX0 k fA fd ps (spG K n g)/\mg x=some (.ref fA)/\keepIn K (.ref fA)=true/\Binds K fd ps []
open Classical in
def zQ(A:Ab Af)(j:Nat)(g:Af->D->Ab D->Aa (D×D))(fs:En->Aa (Ab D)):En->Ab D->Aa (D×Ab D):=λenv ws=>match fs env,A[j]?,ws[j]? with
 |some (.fn a' [] []::ds),some a,some w=>if a'=a then(g a w ds).map λp=>(p.1,ws.set j p.2) else none
 |_,_,_=>none
def Z11(h:l[j]?=some x):l=l.take j++x::l.drop (j+1):=by
 obtain⟨h1,h2⟩:=Qac.mp h;subst h2;rw[<- Qbl h1,List.take_append_drop]
def Z8D{α:Type}{l:Ab α}{j:Nat}{x y:α}(h:l[j]?=some x):l.set j y=l.take j++y::l.drop (j+1):=by
 obtain⟨h1,_⟩:=Qac.mp h;rw[List.set_eq_take_append_cons_drop,if_pos h1]
section
variable {X:Cx}{m1 m2:Bool}{rs1 rs2:Ab Nat}{A:Ab Af}{e a b c:Ag}{es:Ab Ag}{fs:En->Aa (Ab D)}{fb:En->Aa D}{ga:En->Ab D->Aa (D×Ab D)}{ta:En->Ab D->Aa (Bool×Ab D)}{pos p:Pos}{x:Str}{k n j:Nat}{g:Af->D->Ab D->Aa (D×D)}
def vW(c:sK X.prog X.w X.K X.mg X.base x k n g)(R:Room k X.A)(O:NArgs (n+1) fs)(ha:QA X m1 rs1 (e::es) fs)(T:Gl X x:=by rfl)
  (B:nDb x:=by decide) (he:sEa e es X.env:=by rfl) (hpl:bTa pos es X.env:=by rfl) :
  QEg X A (.Call (.Name x p) (e::es) [] pos) (zQ A j g fs):=by
 classical
 obtain⟨fA,fd,ps,G,hm,hk,h⟩:=c.ex;refine .mk (L2.pe_call (dvs:=[]) G R T hm hk h .nil U5 ha B he hpl) λσ H Q ⟨P,env,ws,d,ws',⟨fp,W,IS⟩,e,q⟩=>?_;unfold zQ at e;split at e
 .rename_i J ds a w h1 h2 h3;split at e
  .rename_i C;subst C;cases l:g J w ds with
   |none=>rw[l]at e;cases e
   |some pr =>
    obtain⟨d',w'⟩:=pr;rw[l]at e;cases e;obtain⟨F,hF⟩:=IS.ex;refine⟨env,λr=>if ∃s,env[r]?=some (some s) then F r else[],_,λi o d2 t=>?_,h1,λvs H1 fpa s r cd=>?_⟩
    .obtain⟨v,Y,U⟩:=hF.ok i o d2 t;refine⟨v,Y,?_⟩;show Rep X.K false H d2 v (if ∃s,env[i]?=some (some s) then F i else[]);rw[if_pos ⟨_,t⟩];exact U.same hid_le
    .have lw:A.length=ws.length:=by have:=W.rep.length;simpa using this
     have M:=W.same s;have E:=IS.grow (jC (fw:=fp) s);rw[Z11 h2,Z11 h3]at M;obtain⟨f,y,sub,back⟩:=Z3a (by simp[lw]) M E;simp only[Reps]at r;obtain⟨v0,us,f1,I,rfl,rfl,L,r2⟩:=r;simp only[Rep]at L;obtain⟨rfl,_⟩:=L;have Z:∀b∈I,b∉fp:=λb h hz=>by
      obtain⟨o,S⟩:=W.dom b hz;rcases cd.1 b (Qae _ h)with z|⟨rr,_,z⟩
      .rw[S]at z;cases z
      .by_cases hs:∃s,env[rr]?=some (some s)
       .simp only[if_pos hs]at z;obtain⟨sl,hs⟩:=hs;obtain⟨o2,t⟩:=hF.dom hs b z;rw[nX hz]at t;cases t
       .simp only[if_neg hs]at z;cases z
     have N:ds.length=n:=by have:=O.len env _ h1;simpa using this
     refine⟨J,us++[],w,ds,f,I,d',w',rfl,N,y,?_,l,λv H2 I2=>q v H2 ?_⟩
     .rw[QaP];exact Reps.keep _ _ _ ⟨λb h o e=>by rw[bN (λz=>Z b h (sub b z))];exact e,λb xs e=>by rw[bN (y.hd.tup e)];exact e,λb o u e=>by rw[bN (y.hd.frz e)];exact e⟩ (Reps.weak _ _ _ r2)
     .have:=back H2 v d' w' I2;rw[<- Z11 h2,<- Z8D h3]at this;exact this
  .cases e
 .cases e
def gEq(neg:Bool)(ga:En->Ab D->Aa (D×Ab D))(fb:En->Aa D):En->Ab D->Aa (Bool×Ab D):=λenv ws=>match ga env ws with
 |some (d,ws')=>match fb env with
  |some y=>(eqN 8 d y).map λk=>(if neg then !k else k,ws')
  |none=>none
 |none=>none
def X1(I:SInvG X.K P H σ env A ws)(e:gEq neg ga fb env ws=some (bb,ws'))(q:∀H',SInvG X.K P H' σ env A ws'->Q (.bl bb) H') :
  tOp (Z8Q neg X.K) (tDg X.K A ga) (tD X.K m2 rs2 fb) σ H Q:=by
 unfold gEq at e;split at e
 .rename_i d ws1 h1;split at e
  .rename_i y h2;cases h3:eqN 8 d y with
   |none=>rw[h3]at e;cases e
   |some k =>
    rw[h3]at e;cases e;refine⟨P,env,ws,d,_,I,h1,λv H1 I1=>?_⟩;have a:=I1.pop;obtain⟨F,hF⟩:=a.eok;obtain⟨fw,W,b⟩:=I1;obtain⟨fp,r,_,_⟩:=lY b;exact⟨env,F,y,hF,h2,λu H2 f2 s r2 _=>⟨d,y,fp,f2,k,_,_,(r.same hid_le).same s,r2,h3,q H2 (a.grow s)⟩⟩
  .cases e
 .cases e
def Z8R(f:X.A.units+8<=cLine)(h:QEg X A a ga)(i:QE X m2 rs2 b fb):QTg X A (.Compare a [.NotEq] [b] pos) (gEq true ga fb) :=
 .mk (Z1F (Z4M f) h i (jJ _)) λσ H Q ⟨P,env,ws,bb,ws',I,e,q⟩=>X1 I e λH' I'=>⟨bb,rfl,q H' I'⟩
def gBl(t:En->Ab D->Aa (Bool×Ab D)):En->Ab D->Aa (D×Ab D):=λenv ws=>(t env ws).map λp=>(.bl p.1,p.2)
theorem SInvG.bl{K:Frag}{P H:Hp}{σ:L2.St}{env:En}{ws:Ab D}{k:Bool}(I:SInvG K P H σ env A ws):SInvG K P H (σ++[some (.bl k)]) (env++[some (true,.bl k)]) A ws :=
 I.push (Same.refl H) (nS (K:=K)) Qaz λb hb=>(by cases hb)
def Z5n(e:gBl ta env ws=some (d,ws')):∃k,d=.bl k/\ta env ws=some (k,ws'):=by
 unfold gBl at e;cases h:ta env ws with
 |none=>rw[h]at e;cases e
 |some pr=>rw[h]at e;cases e;exact⟨_,rfl,rfl⟩
def Z4u(f:X.A.units+8<=cLine)(i:QEg X A a ga)(j:QE X m2 rs2 b fb):QEg X A (.Compare a [.Eq] [b] pos) (gBl (gEq false ga fb)) :=
 .mk (vZ (Z0z f) i j (jJ _)) λσ H Q ⟨P,env,ws,d,ws',I,e,q⟩=>by
  obtain⟨k,rfl,h⟩:=Z5n e;exact X1 I h λH' I'=>q _ H' I'.bl
def gB(ga:En->Ab D->Aa (D×Ab D)):En->Ab D->Aa (Bool×Ab D):=λenv ws=>match ga env ws with
 |some (.bl k,ws')=>some (k,ws')
 |_=>none
def Z6G(h:QEg X A e ga)(he:∀whole,isTrue e X.env whole=(do let v <- whole;standAt e.pos;holding [v] (truthy v)):=by intro _;rfl):QTg X A e (gB ga) :=
 .mk (Z4y h he) λσ H Q ⟨P,env,ws,bb,ws',I,e,q⟩=>by
  unfold gB at e;split at e
  .rename_i k ws1 h1;cases e;refine⟨P,env,ws,.bl bb,_,I,h1,λv H1 I1=>?_⟩;have b:=I1.pop;obtain⟨fw,W,a⟩:=I1;obtain⟨fp,r,_,_⟩:=lY a;rw[fI r];exact⟨bb,rfl,q H1 b⟩
  .cases e
def Z7M(ta:En->Ab D->Aa (Bool×Ab D)):En->Ab D->Aa (Bool×Ab D):=λenv ws=>(ta env ws).map λp=>(!p.1,p.2)
def Z6H(b:QTg X A a ta):QTg X A (.UnaryOp .Not a pos) (Z7M ta):=.mk (L2.pt_not b) λσ H Q ⟨P,env,ws,bb,ws',I,e,q⟩=>by
 unfold Z7M at e;cases h:ta env ws with
 |none=>rw[h]at e;cases e
 |some pr=>rw[h]at e;cases e;exact⟨P,env,ws,pr.1,_,I,h,λH' I'=>q H' I'⟩
end
def Z0b{K:Frag}{P H:Hp}{σ:L2.St}{env:En}{v:V}{d:D}(h:SInv K P H (σ++[some v]) (env++[some (true,d)])):∃F fp,EnvS K P H σ env F/\Rep K true H d v fp/\fp.Nodup/\(∀b∈fp,P b=none)/\∀i s,env[i]?=some (some s)->∀b∈F i,b∉fp:=by
 have p:σ.length=env.length:=by have:=h.len;simpa using this
 obtain⟨F,hF⟩:=h.ex;have e:(env++[some (true,d)])[env.length]?=some (some (true,d)):=by simp
 obtain⟨l,n,f,a⟩:=hF.own _ _ e;refine⟨F,F env.length,⟨λi o d e=>?_,λi d e=>?_⟩,f v (by rw[<- p];simp),l,n,λi s hi b hb hz=>a i s (QaK (jZ hi)) (gN hi) b hz hb⟩
 .obtain⟨v,h1,h2⟩:=hF.ok i o d (gN e);rw[QaB (by rw[p];exact jZ e)]at h1;exact⟨v,h1,h2⟩
 .obtain⟨l,n,f,a⟩:=hF.own i d (gN e);exact⟨l,n,λv hv=>f v (gN hv),λj s hj ej=>a j s hj (gN ej)⟩
theorem U2(hd:pln d=true):∀{ns a:Ab Str}{ds ds':Ab D},pln.plns ds=true->mO nm d ns ds=some (a,ds')->pln.plns ds'=true
 |[],a,[],ds',_,e=>by simp only[mO]at e;cases e;simp[pln.plns,hd]
 |n::ns,a,x::ds,ds',p,e=>by
  simp only[pln.plns,Qam]at p;simp only[mO]at e;split at e
  .cases e;simp[pln.plns,hd,p.2]
  .cases h:mO nm d ns ds with
   |none=>rw[h]at e;cases e
   |some pr =>
    rw[h]at e;cases e;simp only[pln.plns,Qam];exact⟨p.1,U2 hd p.2 h⟩
 |[],_,_::_,_,_,e=>by simp[mO]at e
 |_::_,_,[],_,_,e=>by simp[mO]at e
open Classical in
def T7(C a:Af)(i:Nat)(nm:Str)(f:En->Ab D->Aa (D×Ab D)):En->Ab D->Res×Ab D:=λenv ws=>match f env ws with
 |some (d,[.obj C' ns ds])=>if C'=C/\ns.length<100/\pln d=true/\(∃o,env[i]?=some (some (o,.fn a [] []))) then(match mO nm d ns ds with|some p=>(.next env,[.obj C p.1 p.2])|none=>(.bad,ws)) else(.bad,ws)
 |_=>(.bad,ws)
section
variable {X:Cx}{e:Ag}{f':En->Ab D->Aa (D×Ab D)}{pos p pos':Pos}{i:Nat}{x nm:Str}{C a:Af}
def Z6K(hN:X.N[i]?=some x)(hv:Vis X.env.scope x)(hc:Cls X.K C)(hn:NoAttr X.K C nm)(he:QEg X [a] e f')(hd:nDb x:=by decide)(hcd:(x==("__classdict__" : Str))=false:=by decide)
  (hs:swapsWith e (some (.Attribute (.Name x p) nm pos')) pos.line X.env=pure false:=by rfl):QSg X [a] (.Assign [.Attribute (.Name x p) nm pos'] e pos) (T7 C a i nm f') :=
 .mk (tG (kH hN hv hd hcd) he hs) λE σ H ⟨P,env,ws,I,q⟩=>by
  unfold T7 at q;split at q
  .rename_i d t ns ds h1;split at q
   .rename_i hC;obtain⟨rfl,hlt,Y,o0,he0⟩:=hC;cases A:mO nm d ns ds with
    |none=>simp only[A]at q;exact q.elim
    |some pr =>
     simp only[A]at q;refine⟨P,env,ws,d,_,I,h1,λw H' ⟨fw,W,IS⟩=>?_⟩;obtain⟨F,v,hF,Q,a0,frv,G⟩:=Z0b IS;obtain⟨v0,U,r⟩:=hF.ok i o0 _ he0;simp only[Rep]at r;obtain⟨rfl,_⟩:=r;obtain⟨Z,nd,pl⟩:=hw_one.mp W;simp only[Rep]at Z;obtain⟨a',dx,vs,n,ea,rfl,ha,hdx,T,hr⟩:=Z;cases ea;have rvH:Rep X.K true H' d w v:=Q.same hid_le;obtain⟨h,fp2,g1,g2,g3,O,g5,g6⟩:=U1 rvH hr T (show mO nm d ns ds=some (pr.1,pr.2) from A)
     refine⟨.ref a,U,a,t,dx,_,rfl,ha,hc,hn,by rw[List.length_zip];omega,?_⟩;obtain⟨n1,n2⟩:=QaA.mp nd;obtain⟨n3,n4⟩:=QaA.mp n2;have L:dx≠a:=λz=>n1 (z ▸ Qai);have l:∀b∈v,b∉a::dx::n:=λb hb hz=>by
      obtain⟨o,e⟩:=Rep.dom _ _ _ Q b hb;rw[nX hz]at e;cases e
     have na:a∉fp2:=λz=>by
      rcases O a z with y|y
      .exact n1 (Qaa _ y)
      .exact l a y Qai
     have ndx:dx∉fp2:=λz=>by
      rcases O dx z with y|y
      .exact n3 y
      .exact l dx y (Qaa _ Qai)
     have nd2:fp2.Nodup:=g5 (Qar.mpr ⟨n4,a0,λx hx y hy z=>l y hy (Qaa _ (Qaa _ (z ▸ hx)))⟩);rw[g1];have S:=Reps.keep _ _ _ (Kp.upd (o':=.ins t dx (pr.1.zip h)) ha (by intro xs z;cases z) (by intro x u z;cases z) na) g3;have W2:Hw X.K (upd H' a (.ins t dx (pr.1.zip h))) [a] [.obj t pr.1 pr.2] (a::dx::fp2):=by
      refine hw_one.mpr ⟨?_,QaA.mpr ⟨λz=>(Qad.mp z).elim (λz=>L z.symm) na,QaA.mpr ⟨ndx,nd2⟩⟩,?_⟩
      .simp only[Rep];exact⟨a,dx,h,fp2,rfl,rfl,bJ,by rw[bB L];exact hdx,g2,S⟩
      .simp only[pln]at pl ⊢;exact U2 Y pl (show mO nm d ns ds=some (pr.1,pr.2) from A)
     have f:∀{b:Af}{o:HO},b∉v->Hid H' (a::dx::n) b=some o->Hid (upd H' a (.ins t dx (pr.1.zip h))) (a::dx::fp2) b=some o:=λ{b o} hb e=>by
      obtain⟨h1,h2⟩:=fY e;have B:b≠a:=λz=>h1 (z ▸ Qai);rw[bN λz=>?_,bB B]
      .exact h2
      .rcases Qad.mp z with z|z
       .exact B z
       .rcases Qad.mp z with z|z
        .exact h1 (z ▸ Qaa _ Qai)
        .rcases O b z with y|y
         .exact h1 (Qaa _ (Qaa _ y))
         .exact hb y
     have J:∀b∈v,Z5V (Hid H' (a::dx::n)) b:=K2 _ _ _ Q;have kp:∀{g:Ab Af},(∀b∈g,b∉v)->Kp g (Hid H' (a::dx::n)) (Hid (upd H' a (.ins t dx (pr.1.zip h))) (a::dx::fp2)):=λ{g} ap =>
      ⟨λb hb o e=>f (ap b hb) e,λb xs e=>f (λz=>(J b z).1 xs e) e,λb o u e=>f (λz=>(J b z).2 o u e) e⟩
     have R:σ.length=env.length:=by have:=IS.len;simpa using this
     refine q _ _ ⟨_,W2,λb o e=>f (λz=>by rw[frv b z]at e;cases e) (IS.same b o e),R,F,λj o d2 e2=>?_,λj d2 e2=>?_⟩
     .obtain⟨M,v3,v4⟩:=hF.ok j o d2 e2;exact⟨M,v3,Rep.keep _ _ _ (kp (G j _ e2)) v4⟩
     .obtain⟨c1,c2,c3,c4⟩:=hF.own j d2 e2;exact⟨c1,c2,λM r=>Rep.keep _ _ _ (kp (G j _ e2)) (c3 M r),c4⟩
   .exact q.elim
  .exact q.elim
end
open PySem.W (hideAll hideAll_get hideAll_none funFrames_hide)
def Fly(H':Hp)(h0 h':Ah)(a:Af)(cls:Ad):Prop :=
 H' a=none/\h0.get? a=none/\∃oe vs T oT ts,h'.get? a=some oe/\oe.cls=cls/\oe.data=.fields vs/\vs[1]?=some (.ref T)/\T≠a/\h'.get? T=some oT/\oT.data=.fields ts/\ts[3]?=some .none/\H' T=none/\h0.get? T=none
def CXe(P:Aj)(w:Ak):CXT:=λouter H s E e s'=>∃a C H',e=.ref a/\s'.os=s.os/\AllBare s'.gens/\Un (frs outer) [] H H' s.heap s'.heap/\HOk P w H' s'.heap/\Fly H' s.heap s'.heap a (.ref C)/\E (.ref C) none H'
section
variable {X:Cx}{pins:Ab (Af×Obj)}{σ:L2.St}{H:Hp}{s:Ac}{h2 h3:Ah}{a:Af}{cls:Ad}
def Z1n(I:Inv X pins σ H s){b:Af}{o:Obj}(q:X.s₀.heap.get? b=some o)(a:b∉X.fs):b∉frs X.stack:=λz=>by
 rcases Qad.mp (I.stkSub b z)with e|e
 .have:=I.ok.above;rw[e]at q;exact absurd (Qal q) (Nat.not_lt.mpr this)
 .exact a e
def Z53(I:Inv X pins σ H s)(k2:∀b o,s.heap.get? b=some o->h2.get? b=some o)(v:Heap.Left (hideAll s.heap (frs X.stack)) X.stack a cls h2 h3) :
  HOk X.prog X.w H h3/\Un X.fs X.ex X.H₀ H X.s₀.heap h3:=by
 obtain⟨st,x,_,l⟩:=v;have j:∀b o,s.heap.get? b=some o->b∉frs X.stack->h3.get? b=some o:=λb o q hb=>st b o (hideAll_get _ q hb);have r:∀b o,s.heap.get? b=some o->b∈frs X.stack->∃l,h3.get? b=some { o with slots:=l }:=λb o q hb=>by
  obtain⟨_,o',f,i⟩:=I.stack.mem hb;rw[q]at f;cases f;exact l b o (k2 b o q) i
 refine⟨λb o e=>(I.hok b o e).stay (λc u hc q=>j c u q λz=>?_) (λ_ q=>q) λ_ _ q=>q,⟨λb o q n hb hx=>?_,λb o q n hb hx=>?_,I.base.free,λb o q hx=>?_,I.base.tups,I.base.frzs,I.base.tbls⟩⟩
 .have:=I.stkFree c z;rcases hc with rfl|hc
  .rw[e]at this;cases this
  .rw[hc]at this;cases this
 .exact j b o (I.base.keep b o q n hb hx) (Z1n I q hb)
 .obtain⟨s1,f⟩:=I.base.slot b o q n hb hx;by_cases h:b∈frs X.stack
  .obtain⟨p,i⟩:=r b _ f h;exact⟨p,i⟩
  .exact⟨s1,j b _ f h⟩
 .obtain⟨t,f⟩:=I.base.there b o q hx;by_cases h:b∈frs X.stack
  .obtain⟨p,i⟩:=r b _ f h;exact⟨_,i⟩
  .exact⟨t,j b _ f h⟩
def C1{P:Aj}{w:Ak}{H:Hp}{h:Ah}{a:Af}{o:HO}(x:ObjOk P w H h a o):∃u,h.get? a=some u:=by
 cases o<;>first
  |(obtain⟨_,_,_,_,e⟩:=x;exact⟨_,e⟩)
  |(obtain⟨_,_,_,_,e,_⟩:=x;exact⟨_,e⟩)
  |(obtain⟨_,_,_,_,b,_,_,e,_⟩:=x;exact⟨_,e⟩)
  |(obtain⟨_,_,_,_,b,_,e,_⟩:=x;exact⟨_,e⟩)
  |(obtain⟨c,o,_,_,z,e,_⟩:=x;cases z;exact⟨_,e⟩)
  |(obtain⟨_,e,_⟩:=x;exact⟨_,e⟩)
  |exact⟨_,x.2.2.2.1⟩
  |exact x
  |(obtain⟨_,⟨_,_,_,e,_⟩,_⟩:=x;exact⟨_,e⟩)
  |(obtain⟨_,_,_,e⟩:=x;exact⟨_,e⟩)
  |exact⟨_,x.1⟩
  |exact⟨_,x⟩
  |exact x.2.1
def vS(I:Inv X pins σ H s){b:Af}(h:s.heap.get? b=none):H b=none:=by
 cases q:H b with
 |none=>rfl
 |some o =>
  obtain⟨u,e⟩:=C1 (I.hok b o q);rw[h]at e;cases e
def qW(I:Inv X pins σ H s)(a:X.ex=[]){b:Af}(h:s.heap.get? b=none):X.s₀.heap.get? b=none:=by
 cases q:X.s₀.heap.get? b with
 |none=>rfl
 |some o =>
  obtain⟨u,e⟩:=I.base.there b o q (by rw[a];simp);rw[h]at e;cases e
def Z0N{l:Ab Env}:∀env∈l,∀a,env.frame=some a->a∈frs l:=λenv he a hf=>List.mem_filterMap.mpr ⟨env,he,hf⟩
def Z9t(I:Inv X pins σ H s)(b:X.ex=[])(n:s.heap.get? a=none)(w:Heap.Left (hideAll s.heap (frs X.stack)) X.stack a cls h2 h3):Fly H X.s₀.heap h3 a cls:=by
 obtain⟨st,x,⟨v,vs,T,oT,f,t1,t2,t3,y,h,A,p,i,t⟩,B⟩:=w;have l:s.heap.get? T=none:=by
  cases q:s.heap.get? T with
  |none=>rfl
  |some o =>
   by_cases j:T∈frs X.stack
   .obtain⟨_,o',r,u⟩:=x.mem j;rw[p]at r;cases r;exact absurd i (u f)
   .rw[hideAll_get _ q j]at h;cases h
 exact⟨vS I n,qW I b n,v,vs,T,oT,f,t1,t2,t3,y,A,p,i,t,vS I l,qW I b l⟩
def Z7v{C:Af}{E:XK}(I:Inv X pins σ H s)(f:X.ex=[])(k2:∀b o,s.heap.get? b=some o->h2.get? b=some o)(j:s.heap.get? a=none)(h:Heap.Left (hideAll s.heap (frs X.stack)) X.stack a (.ref C) h2 h3)(q:E (.ref C) none H){g:Ae GenState}{d:Drawn}{t:Nat}(i:AllBare g) :
  CXe X.prog X.w X.outer X.H₀ X.s₀ E (.ref a) ⟨h3,g,d,t,s.os⟩:=by
 obtain⟨l1,l2⟩:=Z53 I k2 h;rw[f]at l2;exact⟨a,C,H,rfl,I.os,i,l2,l1,Z9t I f j h,q⟩
def V4{C:Af}{args:Ab Ad}{E:XK}{x:Ad->Ac->Prop}(I:Inv X pins σ H s)(p:X.ex=[])(n:X.stack=X.env::X.outer)(v:X.env.frame=some X.env.locals)
  (mk:Heap.MadeExcOf s.heap h2 a (.ref C) args) (q:E (.ref C) none H) :
  wpAny (model X.prog X.w) X.A («leaving» X.env (.ref a)) (λ_ s''=>CXe X.prog X.w X.outer X.H₀ X.s₀ E (.ref a) s'') x { s with heap:=h2 }:=by
 obtain⟨t,u,B,y⟩:=mk.there;have r:s.heap.FunFrames (hideAll s.heap (frs X.stack)) X.stack:=funFrames_hide I.stack Z0N;have l:h2.FunFrames (hideAll s.heap (frs X.stack)) X.stack:=r.of_keeps λb o hb _=>⟨o,mk.keeps b o hb,rfl⟩;have h:(hideAll s.heap (frs X.stack)).StaysIn h2:=λb o hb=>mk.keeps b o (Qbo _ hb);have i:(hideAll s.heap (frs X.stack)).get? a=none:=by
  cases q:(hideAll s.heap (frs X.stack)).get? a with
  |none=>rfl
  |some o=>have:=Qbo _ q;rw[mk.new]at this;cases this
 have f:=I.ok.frames;have j:=@Z7v X pins σ H s h2
 revert l h i f j
 rw[n];intro l h i f j;refine wpAny_leaving_first (s:={ s with heap:=h2 }) f l v u h i rfl rfl λh3 lf=>?_;exact j I p mk.keeps mk.new lf q I.bare
def C4(I:Inv X pins σ H s){xs:Ab Af}(f:∀x∈xs,H x=none/\X.s₀.heap.get? x=none)(y:Heap.Left (hideAll s.heap (xs++frs X.stack)) X.stack a cls s.heap h3) :
  HOk X.prog X.w H h3/\Un X.fs X.ex X.H₀ H X.s₀.heap h3:=by
 obtain⟨st,A,_,p⟩:=y;have l:∀b o,s.heap.get? b=some o->b∉frs X.stack->b∉xs->h3.get? b=some o:=λb o q hb hc=>st b o (hideAll_get _ q λz=>(Qah.mp z).elim hc hb);have t:∀b o,s.heap.get? b=some o->b∈frs X.stack->∃p,h3.get? b=some { o with slots:=p }:=λb o q hb=>by
  obtain⟨_,o',h,j⟩:=I.stack.mem hb;rw[q]at h;cases h;exact p b o q j
 have nx:∀b o,X.s₀.heap.get? b=some o->b∉xs:=λb o q z=>by rw[(f b z).2]at q;cases q
 refine⟨λb o e=>(I.hok b o e).stay (λc u hc q=>l c u q (λz=>?_) λz=>?_) (λ_ q=>q) λ_ _ q=>q,⟨λb o q n hb f=>?_,λb o q n hb f=>?_,I.base.free,λb o q f=>?_,I.base.tups,I.base.frzs,I.base.tbls⟩⟩
 .have:=I.stkFree c z;rcases hc with rfl|hc
  .rw[e]at this;cases this
  .rw[hc]at this;cases this
 .have:=(f c z).1;rcases hc with rfl|hc
  .rw[e]at this;cases this
  .rw[hc]at this;cases this
 .exact l b o (I.base.keep b o q n hb f) (Z1n I q hb) (nx b o q)
 .obtain⟨s1,h⟩:=I.base.slot b o q n hb f;by_cases i:b∈frs X.stack
  .obtain⟨r,j⟩:=t b _ h i;exact⟨r,j⟩
  .exact⟨s1,l b _ h i (nx b o q)⟩
 .obtain⟨v,h⟩:=I.base.there b o q f;by_cases i:b∈frs X.stack
  .obtain⟨r,j⟩:=t b _ h i;exact⟨_,j⟩
  .exact⟨v,l b _ h i (nx b o q)⟩
def Z0I{E W:XK}{E':Ad->Ac->Prop}{e:Ad}{s':Ac}(I:Inv X pins σ H s)(h:X.ex=[])(S:X.stack=X.env::X.outer)(hf:X.env.frame=some X.env.locals)
  (cx:CXe X.prog X.w X.stack H s W e s') (q:∀C H',W (.ref C) none H'->E (.ref C) none H') :
  wpAny (model X.prog X.w) X.A («leaving» X.env e) (λ_ s''=>CXe X.prog X.w X.outer X.H₀ X.s₀ E e s'') E' s':=by
 obtain⟨a,C,H',rfl,os,u,un,M,⟨fa,f0,oe,vs,T,oT,ts,t1,t2,t3,t4,t6,t7,t8,t9,K,Q⟩,hq⟩:=cx;obtain⟨f,g,d,t,a0⟩:=s';obtain rfl:a0=s.os:=os;have J:Inv X pins σ H' ⟨f,g,d,t,s.os⟩:=I.call (h':=f) (g':=g) (d':=d) (t':=t) (ch:=[]) un M u (λb z=>absurd z (by simp));have l:∀x∈[a,T],H' x=none/\X.s₀.heap.get? x=none:=λx hx=>by
  rcases Qad.mp hx with z|z
  .rw[z];exact⟨fa,qW I h f0⟩
  .have z:x=T:=by simpa using z
   rw[z];exact⟨K,qW I h Q⟩
 have v:f.FunFrames (hideAll f ([a,T]++frs X.stack)) X.stack:=funFrames_hide J.stack λenv he b hb=>Qae _ (Z0N env he b hb);have n:(hideAll f ([a,T]++frs X.stack)).StaysIn f:=λb o hb=>Qbo _ hb;have i:(hideAll f ([a,T]++frs X.stack)).get? a=none:=hideAll_none _ (by simp);have U:(hideAll f ([a,T]++frs X.stack)).get? T=none:=hideAll_none _ (by simp);have j:=J.ok.frames;have lu:=@C4 X pins σ H' ⟨f,g,d,t,s.os⟩;have B:∀h3,Heap.Left (hideAll f ([a,T]++frs X.stack)) X.stack a (.ref C) f h3->CXe X.prog X.w X.outer X.H₀ X.s₀ E (.ref a) ⟨h3,g,d,t,s.os⟩:=λh3 lf=>by
  obtain⟨l1,l2⟩:=C4 J l lf;rw[h]at l2;obtain⟨st,ff,⟨Y,N,T',a1,r,u1,u2,u3,u4,R,u6,Z,P,u9⟩,sl⟩:=lf;have p:H' T'=none/\X.s₀.heap.get? T'=none:=by
   by_cases O:T'∈frs X.stack
   .obtain⟨_,o',G,e2⟩:=ff.mem O;rw[Z]at G;cases G;exact absurd P (e2 r)
   .by_cases L:T'∈[a,T]
    .exact l T' L
    .have F:f.get? T'=none:=by
      cases qq:f.get? T' with
      |none=>rfl
      |some o=>rw[hideAll_get _ qq λz=>(Qah.mp z).elim L O]at R;cases R
     exact⟨vS J F,qW J h F⟩
  exact⟨a,C,H',rfl,J.os,J.bare,l2,l1,⟨fa,(l a (by simp)).2,Y,N,T',a1,r,u1,u2,u3,u4,u6,Z,P,u9,p.1,p.2⟩,q C H' hq⟩
 have y:f.Traced (hideAll f ([a,T]++frs X.stack)) a (.ref C):=⟨oe,vs,T,oT,ts,t1,t2,t3,t4,U,t6,t7,t8,t9⟩;clear lu
 revert v n i j B y
 rw[S];intro v n i j B y;exact wpAny_leaving_next (s:=⟨f,g,d,t,s.os⟩) j v hf y n i λh3 lf=>B h3 lf
end
structure ExC(base:Heap)(C:Addr):Prop where
 obj:∃(bmB tl:Ab Ad) (N:Af) (nm q:Str) (bs:Ab Ad) (hdct:Bool) (sn:Ab Str) (sub:Ab Ad) (ab:Bool) (col:Aa Bool) (dd:Aa Af) (k0 k1 k2 k3 k5:Aa Ad) (newId:String) (mN:Str->Aa Ad) (B nid initId Bn inN:String) (bmN:Ab Ad),
  base.get? C=some (excClassObj nm q C N bs tl hdct sn sub ab col dd k0 k1 k2 k3 k5 newId)/\base.Ns N mN/\mN "__init__" = none/\OwnTail base bmB tl/\ExcBaseFacts B nid initId bmB/\ExcBaseFacts Bn newId inN bmN/\bmB.contains (.type Bn)=true
section
variable {X:Cx}{C:Af}{x:Str}{np cpos pos:Pos}{e:Ag}{t:TA}{R:Hp->Prop}
def Z4z(O:ExC X.base C)(w:Gl X x)(G:X.mg x=some (.ref C))(hc:X.calm=true)(F:PA X [e] t)
  (j:∀pins σ H s h2 a args,Inv X pins σ H s->Heap.MadeExcOf s.heap h2 a (.ref C) args->R H->X.xe (.ref a) { s with heap:=h2 })
  (he:starEach [e] X.env=(false,eval e X.env)::starEach [] X.env:=by rfl) (b:(backTo cpos (starEach [] X.env)).any (·.1)=false:=by rfl) (hd:nDb x:=by decide) :
  PS X (.Raise (some (.Call (.Name x np) [e] [] cpos)) none pos) (λD σ H=>t σ H λvs H1=>vs.length<=sizeLine/\R H1):=by
 intro pins s σ H D I h;obtain⟨r,tl,N,nm,q,bs,hdct,sn,sub,ab,col,dd,k0,k1,k2,k3,k5,i,mN,B,L,u,P,M,K,J,A,o,T,p,E,l⟩:=O.obj;refine wpAny_Raise_call_subU (C:=C) (nm:=nm) (q:=q) (N:=N) (bs:=bs) (bm:=tl) (hdct:=hdct) (sn:=sn) (sub:=sub) (ab:=ab) (col:=col) (dd:=dd) (k0:=k0) (k1:=k1) (k2:=k2) (k3:=k3) (k5:=k5)
  E l p (mN:=mN) (T.hasType p.hasBase) (I.ok.hd hc) (by rw[he];show(false||(backTo cpos (starEach [] X.env)).any (·.1))=false;rw[b];rfl) o
  (thn (oW (v:=.ref C) w G rfl hd pins s σ H (λv H1=>v=.ref C/\t σ H1 λvs H2=>vs.length<=sizeLine/\R H2) I ⟨rfl,h⟩) λf s1 ⟨v,H1,I1,r1,e1,q1⟩=>?_)
 subst e1;cases r1;refine⟨rfl,?_⟩;have n:=thn (F cpos pins s1 σ H1 _ I1 q1) λus s2 ⟨vs,H2,I2,r2,q2⟩=>(show us.length<=sizeLine/\s2.heap.get? C=some (excClassObj nm q C N bs tl hdct sn sub ab col dd k0 k1 k2 k3 k5 i)/\s2.heap.Ns N mN/\OwnTail s2.heap r tl/\∀h' e,Heap.MadeExcOf s2.heap h' e (.ref C) us->X.xe (.ref e) { s2 with heap:=h' } from
  ⟨by rw[<- r2.length];exact q2.1,I2.bk _ _ J,A.keeps I2.bk,T.keeps I2.bk,λh' e mk=>j pins σ H2 s2 h' e us I2 mk q2.2⟩)
 rw[he]at n ⊢;exact Calls.evalArgs_plain (Rc n (λvs s₂ h₂=>⟨rfl,h₂⟩) λ_ _ y=>y)
end
section
variable {P:Aj}{w:Ak}{K:Frag}{mg:Str->Aa Ad}{base:Ah}{N:Ab Str}{qual:Str}{scope:Scope}{f:Af}{cd:Ad}{A:Ai}{outer:Ab Env}{s0:Ac}{H0:Hp}{E:XK}
abbrev cxE(P:Aj)(w:Ak)(K:Frag)(mg:Str->Aa Ad)(base:Ah)(N:Ab Str)(qual:Str)(scope:Scope)(f:Af)(cd:Ad)(A:Ai)(outer:Ab Env)(s0:Ac)(H0:Hp)(E:XK):Cx:=uH (CXe P w) P w K mg base N qual scope f cd A outer s0 H0 E
def Z3D:∀pins σ H s h2 a args,Inv (cxE P w K mg base N qual scope f cd A outer s0 H0 E) pins σ H s->Heap.MadeExcOf s.heap h2 a (.ref C) args->E (.ref C) none H->(cxE P w K mg base N qual scope f cd A outer s0 H0 E).xe (.ref a) { s with heap:=h2 } :=
 λpins σ H s h2 a args I mk q=>V4 (X:=cxE P w K mg base N qual scope f cd A outer s0 H0 E) I rfl rfl rfl mk q
def Z1f:qQ (CXe P w) (cxE P w K mg base N qual scope f cd A outer s0 H0 E) E :=
 λpins σ H s e s' I cx=>Z0I (X:=cxE P w K mg base N qual scope f cd A outer s0 H0 E) I rfl rfl rfl cx λ_ _ h=>h
end
section
variable {X:Cx}{pins:Ab (Af×Obj)}{σ:L2.St}{H:Hp}{s:Ac}
def Zbe(H:Hp)(h:Ah)(a:Af):Prop:=∃oe vs T oT ts,h.get? a=some oe/\oe.data=.fields vs/\vs[1]?=some (.ref T)/\T≠a/\h.get? T=some oT/\oT.data=.fields ts/\ts[3]?=some .none/\H T=none
def Z9A(I:Inv X pins σ H s)(hst:X.stack=X.env::X.outer)(hf:X.env.frame=some X.env.locals)
  (cx:CXe X.prog X.w X.stack H s E1 e s')
  (q:∀a C H' s3,e=.ref a->H' a=none->E1 (.ref C) none H'->Inv X pins σ (upd H' a (.ext (nW a (.ref C)))) s3->Zbe H' s3.heap a->Q () s3) :
  wpAny (model X.prog X.w) X.A (noteFrame e X.env) (λ_ E=>wpAny (model X.prog X.w) X.A (setFlight e none) Q E' E) E' s':=by
 obtain⟨a,C,H',rfl,os,l,un,hok,⟨fa,f0,oe,vs,T,oT,ts,t1,t2,t3,t4,t6,t7,t8,t9,F,t11⟩,hq⟩:=cx;obtain⟨f,g,d,t,os'⟩:=s';obtain rfl:os'=s.os:=os;have J:Inv X pins σ H' ⟨f,g,d,t,s.os⟩:=I.call (h':=f) (g':=g) (d':=d) (t':=t) (ch:=[]) un hok l (λb z=>absurd z (by simp));have P:f.FunFrames (hideAll f ([a,T]++frs X.stack)) X.stack:=funFrames_hide J.stack λenv he b h=>Qae _ (Z0N env he b h);have x:(hideAll f ([a,T]++frs X.stack)).StaysIn f:=λb o h=>Qbo _ h;have r:(hideAll f ([a,T]++frs X.stack)).get? a=none:=hideAll_none _ (by simp);have hnT:(hideAll f ([a,T]++frs X.stack)).get? T=none:=hideAll_none _ (by simp);have v:=J.ok.frames;have U:f.Traced (hideAll f ([a,T]++frs X.stack)) a (.ref C):=⟨oe,vs,T,oT,ts,t1,t2,t3,t4,hnT,t6,t7,t8,t9⟩;have Y:∀h3,Heap.Left (hideAll f ([a,T]++frs X.stack)) X.stack a (.ref C) f h3->Q () ⟨h3,g,d,t,s.os⟩:=λh3 lf=>by
  obtain⟨st,ff,⟨K,G,T',oT',ts',M,u2,u3,u4,u5,u6,u7,u8,u9⟩,S⟩:=lf;have nx:∀b o,s.heap.get? b=some o->b∉[a,T]:=λb o j z=>by
   rcases Qad.mp z with z|z
   .rw[z,f0]at j;cases j
   .have z:b=T:=by simpa using z
    rw[z,t11]at j;cases j
  have tr:∀b o,H' b=some o->b∉[a,T]:=λb o j z=>by
   rcases Qad.mp z with z|z
   .rw[z,fa]at j;cases j
   .have z:b=T:=by simpa using z
    rw[z,F]at j;cases j
  have Z:∀b o,f.get? b=some o->b∉frs X.stack->b∉[a,T]->h3.get? b=some o:=λb o q h hc=>st b o (hideAll_get _ q λz=>(Qah.mp z).elim hc h);have kf:∀b o,f.get? b=some o->b∈frs X.stack->∃S,h3.get? b=some { o with slots:=S }:=λb o q h=>by
   obtain⟨_,o',i,B⟩:=J.stack.mem h;have i:f.get? b=some o':=i;rw[q]at i;cases i;exact S b o q B
  have hok3:HOk X.prog X.w (upd H' a (.ext (nW a (.ref C)))) h3:=λb o e=>by
   by_cases h:b=a
   .subst h;rw[bJ]at e;cases e;refine⟨⟨K,G,M,u2,u3⟩,⟨_,M⟩,λh1 h2 ⟨O,v1,L,R,W⟩ k=>⟨O,v1,k _ L,R,W⟩⟩
   .rw[bB h]at e;refine(J.hok b o e).stay (λc u hc q=>?_) (λc qc=>?_) λc xs qc=>?_
    .have hcs:∃N,H' c=some N:=by
      rcases hc with rfl|hc
      .exact⟨_,e⟩
      .exact⟨_,hc⟩
     obtain⟨N,y⟩:=hcs;exact Z c u q (λz=>by rw[J.stkFree c z]at y;cases y) (tr c N y)
    .rw[bB λz=>by rw[z,fa]at qc;cases qc];exact qc
    .rw[bB λz=>by rw[z,fa]at qc;cases qc];exact qc
  have un3:Un (frs X.stack) [] H (upd H' a (.ext (nW a (.ref C)))) s.heap h3:=by
   refine⟨λb o q n h hx=>Z b o (un.keep b o q n h hx) h (nx b o q),λb o q n h hx=>?_,λb o q n hx=>?_,λb o q hx=>?_,λb xs q=>?_,λb o u q=>?_,λb ps q=>?_⟩
   .obtain⟨s1,i⟩:=un.slot b o q n h hx;obtain⟨E,B⟩:=kf b _ i h;exact⟨E,B⟩
   .rw[bB λz=>by rw[z,f0]at q;cases q];exact un.free b o q n hx
   .obtain⟨O,i⟩:=un.there b o q hx;by_cases p:b∈frs X.stack
    .obtain⟨E,B⟩:=kf b _ i p;exact⟨_,B⟩
    .exact⟨O,Z b _ i p (nx b o q)⟩
   .have:=un.tups b xs q;rw[bB λz=>by rw[z,fa]at this;cases this];exact this
   .have:=un.frzs b o u q;rw[bB λz=>by rw[z,fa]at this;cases this];exact this
   .obtain⟨m,i⟩:=un.tbls b ps q;exact⟨m,by rw[bB λz=>by rw[z,fa]at i;cases i];exact i⟩
  have hT':H' T'=none:=by
   by_cases p:T'∈frs X.stack
   .exact J.stkFree T' p
   .by_cases hy:T'∈[a,T]
    .rcases Qad.mp hy with z|z
     .rw[z];exact fa
     .have z:T'=T:=by simpa using z
      rw[z];exact F
    .have hn:f.get? T'=none:=by
      cases j:f.get? T' with
      |none=>rfl
      |some o=>rw[hideAll_get _ j λz=>(Qah.mp z).elim hy p]at u5;cases u5
     exact vS J hn
  exact q a C H' ⟨h3,g,d,t,s.os⟩ rfl fa hq (I.call (h':=h3) (g':=g) (d':=d) (t':=t) (ch:=[]) un3 hok3 l (λb z=>absurd z (by simp))) ⟨K,G,T',oT',ts',M,u3,u4,u6,u7,u8,u9,hT'⟩
 revert P x r v Y U
 rw[hst];intro P x r v U Y;obtain⟨pe,pv,pT,po,pt,L,R,W,y4,y5,y6,y7,y8,y9⟩:=U;have hp0:pv[0]?=some pv[0]!:=by
  have h1:=(Array.getElem?_eq_some_iff.mp y4).1;rw[Array.getElem?_eq_getElem (show 0<pv.size by omega),getElem!_pos pv 0 (show 0<pv.size by omega)]
 refine wpAny_looks_onW (s:=⟨f,g,d,t,s.os⟩) (a0:=pv[0]!) v hf ⟨x,r,P,pe,pv,pT,po,pt,L,⟨R,hp0⟩,W,y4,y5,y6,y7,y8,y9⟩ λh4 hH sm4=>?_;refine wpAny_landsW hH λh5 hF5 sm5=>?_;obtain⟨w1,w2,w3,xe,xv,xT,xo,xt,v1,v2,v3⟩:=hF5;exact Y h5 ⟨w1,w3,⟨xe,xv,xT,xo,xt,v1,v2.1,v3⟩,sm4.trans sm5⟩
end
def noX:Res->Res
 | .ret (.exc _)=>.bad
 |r=>r
def F0(K:Frag)(P:Hp)(E:XK)(D:uL)(r:Res):Prop:=match r with
 | .ret (.exc C)=>∀H,Same P H->E (.ref C) none H
 |r=>Post K P D r
def tH{K:Frag}{P:Hp}{E:XK}{D:uL}{r:Res}(h:F0 K P E D (noX r)):Post K P D r:=by
 cases r with
 |ret d=>cases d<;>first|exact h|exact h.elim
 |_=>exact h
def Z9R(K:Frag)(E:XK)(g:En->Res):TS:=λD σ H=>∃P env,SInv K P H σ env/\F0 K P E D (g env)
def QSx(X:Cx)(E:XK)(st:Stmt)(g:En->Res):Prop:=PS X st (Z9R X.K E g)
def zV(X:Cx)(E:XK)(st:Ab Stmt)(g:En->Res):Prop:=PSs X st (Z9R X.K E g)
section
variable {X:Cx}{E:XK}{st:Stmt}{sts sa sb:Ab Stmt}{g h:En->Res}{pos:Pos}
theorem PS.nox(h:PS X.nox st t):PS X st t:=λpins s σ H D I hw =>
 Rc (h pins s σ H D (I.wish _) hw) (λ_ _ q=>q.unwish) λ_ _ z=>False.elim z
def Z1y(h:QS X.nox st g):QSx X E st (λenv=>noX (g env)):=λpins s σ H D I ⟨P,env,IS,q⟩=>PS.nox h pins s σ H D I ⟨P,env,IS,tH q⟩
def bV(h1:QSx X E st g):zV X E [st] g:=λpins s σ H D I q=>oV h1 pins s σ H D I q
def aT(h1:QSx X E st g)(h2:zV X E sts h):zV X E (st::sts) (aL g h):=λpins s σ H D I ⟨P,env,IS,q⟩=>kG h1 h2 pins s σ H D I (by
 refine⟨P,env,IS,?_⟩;unfold aL at q;cases a:g env with
 |next env'=>rw[a]at q;exact λσ' H' I'=>⟨P,env',I',q⟩
 |ret d=>rw[a]at q;cases d<;>exact q
 |brk _=>rw[a]at q;exact q
 |cont _=>rw[a]at q;exact q
 |bad=>rw[a]at q;exact q)
def cL:zV X E [] aX:=λpins s σ H D I ⟨P,env,IS,q⟩=>vX pins s σ H D I (q σ H IS)
def eD(hc:QT X.nox c c')(a:zV X E sa g)(b:zV X E sb h):QSx X E (.If c sa sb pos) (rIf c' g h):=λpins s σ H D I ⟨P,env,IS,q⟩=>Z1G (PT.nox hc) a b pins s σ H D I (by
 obtain⟨F,hF⟩:=IS.ex;unfold rIf at q;split at q
 .rename_i h1;exact⟨env,F,true,hF.ok,h1,λH' s=>zN ⟨P,env,IS.grow s,q⟩⟩
 .rename_i h1;exact⟨env,F,false,hF.ok,h1,λH' s=>zO ⟨P,env,IS.grow s,q⟩⟩
 .exact q.elim)
def nM(C:Af):En->Res:=λ_=>.ret (.exc C)
def cQ{P:Aj}{w:Ak}{K:Frag}{mg:Str->Aa Ad}{base:Ah}{N:Ab Str}{qual:Str}{scope:Scope}{f:Af}{cd:Ad}{A:Ai}{outer:Ab Env}{s0:Ac}{H0:Hp}{E:XK}{C:Af}{x z:Str}{np cpos pos a:Pos}{j:Nat}
  (O:ExC base C) (b:Gl (cxE P w K mg base N qual scope f cd A outer s0 H0 E) x) (h:mg x=some (.ref C)) (hd:nDb x:=by decide) :
  QSx (cxE P w K mg base N qual scope f cd A outer s0 H0 E) E (.Raise (some (.Call (.Name x np) [.Constant (.str z) j a] [] cpos)) none pos) (nM C):=λpins s σ H D I ⟨P',env,IS,q⟩ =>
 Z4z (X:=cxE P w K mg base N qual scope f cd A outer s0 H0 E) (R:=λH=>E (.ref C) none H) O b h rfl (pa_cons Z4H pa_nil rfl) Z3D rfl rfl hd pins s σ H D I ⟨(show 1<=sizeLine by decide),q H IS.same⟩
end
def spE(K:Frag)(n:Nat)(f:Ab D->Aa D):Sp:=λvs H Q E=>∃ds d fp,ds.length=n/\Reps K false H ds vs fp/\f ds=some d /\
 match d with
 | .exc C=>∀H',Same H H'->E (.ref C) none H'
 |d=>∀v H' fp',Same H H'->Rep K true H' d v fp'->(∀b∈fp',H b=none)->fp'.Nodup->Q v H'
def Z6g{K:Frag}{n:Nat}{f:Ab D->Aa D}{vs:Ab V}{H:Hp}{Q:VK}{E:XK}(h:spE K n f vs H Q E):vs.length=n:=by
 obtain⟨ds,d,fp,h1,h2,_⟩:=h;rw[h2.length,h1]
def FunD.okE{P:Aj}{w:Ak}{K:Frag}{mg:Str->Aa Ad}{base:Ah}{x qual:Str}{st:Stmt}{f:Af}{fd:FuncData}{N ps:Ab Str}{k n L:Nat}{g:En->Res}(F:FunD K x qual st f fd)(S:eT N ps (aR st))(o:ps.length=n)(r:N.length=L)
  (j:∀(a:Ad) (A:Ai) (outer:Ab Env) (s:Ac) (H:Hp) (E:XK),Room k (A.deeper (envOfC qual (aR st) s.heap.objs.size f a))->zV (cxE P w K mg base N qual (aR st) f a A outer s H E) E (cB st) g) :
  gT P w K mg base (CXe P w) (k+1) f fd ps (spE K n (runF L g)):=by
 subst o r;obtain⟨v,C,y,kV,u,B,an,a,ct,t,rfl,p,l⟩:=F.ex;refine X4 p l S (λvs H Q E h=>Z6g h) λA outer s H vs Q E hr hsp=>?_;obtain⟨ds,d,fp,h1,h2,h3,q⟩:=hsp;refine⟨_,j a A outer s H E hr,H,enStart N.length ds,mL h2,?_⟩;unfold runF at h3;cases i:g (enStart N.length ds) with
 |ret d' =>
  rw[i]at h3;cases h3;cases d<;>exact q
 |next env' =>
  rw[i]at h3;cases h3;exact λσ' H' I'=>q .non H' [] I'.same mQ (λb j=>(by cases j)) Qaz
 |brk _=>rw[i]at h3;cases h3
 |cont _=>rw[i]at h3;cases h3
 |bad=>rw[i]at h3;cases h3
structure dM(P:Program)(w:World)(K:Frag)(mg:Str->Option Value)(base:Heap)(x:Str)(dds:List D)(k n:Nat)(F':List D->Option D):Prop where
 ex:∃fA fd ps dvs ds,gT P w K mg base (CXe P w) k fA fd ps (spE K n F')/\mg x=some (.ref fA)/\keepIn K (.ref fA)=true/\Binds K fd ps ds/\Vals dvs ds/\∀H,Reps K false H dds dvs []
open Classical in
section
variable {X:Cx}{pins:Ab (Af×Obj)}{σ:L2.St}{H:Hp}{s:Ac}{e:Ag}
def Z2U(h:o.data=.fields ts)(h1:ts[i]?=some x):Obj.mapFields (·.setIfInBounds i x) o=o:=by
 have e:ts.setIfInBounds i x=ts:=by
  apply Array.ext_getElem?;intro j;rw[Array.getElem?_setIfInBounds];by_cases a:i=j
  .subst a;obtain⟨h2,h3⟩:=Array.getElem?_eq_some_iff.mp h1;simp[h2,h3]
  .simp[a]
 obtain⟨c,d,b,f⟩:=o;simp only at h;subst h;simp[Obj.mapFields,e]
def Z2Q(I:Inv X pins σ H s)(J:X.N.Nodup)(r:X.N[k]?=some n)(f:X.env.scope.names.lookup n=some .local)(h:∀s',Inv X pins (σ.set k none) H s'->Q () s') :
  wpAny M A (do bindName X.env n .none;unbindBehindTheSuite X.env n pos) Q E s:=by
 have t:(X.env.scope.kind == .class||(X.env.scope.kind == .module&&X.env.locals != X.env.globals))=false:=by rw[I.ok.kind];rfl
 have l:k<σ.length:=by rw[I.len];exact(Qac.mp r).1
 refine Ra (wpAny_bindName (lU I J r (.inl f) (v:=.non) (u:=.none) rfl (λs1 I1=>?_) (.inr f)));obtain⟨m,B,G⟩:=id I1.loc;obtain⟨u,Y,P⟩:=G k n .non r (Qaw l) (.inl f);have R:m n=some u:=by
  rcases P with⟨_,e⟩|⟨z,_⟩
  .exact e
  .have i:X.env.scope.names.lookup n=some .cell\/X.env.scope.names.lookup n=some .free:=z;rw[f]at i;rcases i with i|i<;>cases i
 unfold unbindBehindTheSuite;refine wpAny_onRaise (wpAny_unbindName_local f B R t λh' u' hn' hs=>?_);have cne:=I1.cne;obtain⟨W,_,_,U,_⟩:=id B;have C:HOk X.prog X.w H h':=λb ob e=>by
  refine(I1.hok b ob e).stay (λc w' hc q=>(hs.2 c ?_).trans q) (λ_ q=>q) λ_ _ q=>q;rintro rfl;rcases hc with rfl|hc
  .rw[I1.free]at e;cases e
  .rw[I1.free]at hc;cases hc
 refine h _ ⟨I1.ok,I1.os,I1.bare,⟨λb o e n hb hx=>?_,λb o e n hb hx=>?_,I1.base.free,λb o e hx=>?_,I1.base.tups,I1.base.frzs,I1.base.tbls⟩,⟨_,hn',λj y v' a e2 e3=>?_⟩,λy c e=>?_,I1.free,I1.freeC,λp hp=>?_,C,by simpa using I.len⟩
 .exact(hs.2 b (QaK (Qau (Qal e) I1.ok.above))).trans (I1.base.keep b o e n hb hx)
 .obtain⟨L,a⟩:=I1.base.slot b o e n hb hx;exact⟨L,(hs.2 b (QaK (Qau (Qal e) I1.ok.above))).trans a⟩
 .obtain⟨o',a⟩:=I1.base.there b o e hx;exact⟨o',(hs.2 b (QaK (Qau (Qal e) I1.ok.above))).trans a⟩
 .have x:j≠k:=by
   rintro rfl;rw[Qaw l]at e2;cases e2
  rw[Qak (Ne.symm x)]at e2;obtain⟨K,O,T⟩:=G j y v' a (by rw[Qak (Ne.symm x)];exact e2) e3;refine⟨K,O,?_⟩;rcases T with⟨z,e⟩|⟨z,c,e,w⟩
  .refine .inl ⟨z,?_⟩;have:y≠n:=λe=>x (xQ J a (e ▸ r));simp[this,e]
  .exact .inr ⟨z,c,e,w.sameBut hs (cne y c e)⟩
 .obtain⟨w',z⟩:=I1.cell y c e;exact⟨w',z.sameBut hs (cne y c e)⟩
 .obtain⟨e,n,F,S,d⟩:=I1.pin p hp;exact⟨(hs.2 p.1 F).trans e,n,F,S,d⟩
end
end PD
namespace PySem.W
open PySem PySem.Spec PySem.Calls PyProof.Rows Builtin Builtin.ObjectAttr Builtin.Getset_descriptor
structure ExAt(h:Heap)(x:Addr)(ox:Obj)(C:Addr):Prop where
 at_:h.get? x=some ox
 cls:ox.cls=.ref C
section
variable {prog:Aj}{w:Ak}{A:Ai}{E:Ad->Ac->Prop}{s:Ac}{K:Frag}{x C:Af}{ox:Obj}{name:Str}{R:Result->Ac->Prop}
def ExAt.type(I:ExAt h x ox C):Looks M h (typeOf (.ref x)) (.ref C):=I.cls ▸ (Looks.ld I.at_).andThen .now
def Z13(X:K.In s.heap)(I:ExAt s.heap x ox C)(a:mroIn K C (.type "object")=some true)
  (h:R (.ok (.ret (.ref C))) s):codeAny (model prog w) A (.call (.builtin "getset_descriptor.__get__") ⟨[.builtin "object.__class__",.ref x,tp],[]⟩) R s:=by
 obtain⟨f,g,j,t,os⟩:=s;have i:=I.type (M:=model prog w);have b:=looks_mroIn (M:=model prog w) X a;refine codeAny_call_builtin KF.slot_gs.plain KF.entry_gs (KF.slot_gs.check _ _ _ _ _ _ _ _ KF.type_class (KF.args_gs _ _ _) ?_);unfold Builtin.«getset_descriptor.__get__» descrGet;rw[dga_obj];refine Ra (Rb ?_);unfold descrGetter descrCheckInstance descrNameAndClass isInstance;simp only[KF.owner_class]
 repeat lk
 refine⟨Code.quiet_builtin _ (by decide +kernel),codeAny_builtin KF.entry_class ?_⟩;unfold Builtin.«object.__class__» shownTypeOf
 repeat lk
 exact h
def Zaw(X:K.In h)(j:findIn K (.ref C) name=some (some a))(f:specialIn K a "__get__" = some (some g))(n:takesIn K a=some true):Looks M h (find (.ref x) (.ref C) name) (.bind g a):=by
 have l:=looks_findIn (M:=M) X j;have i:Looks M h (getOf (some a)) (some g):=looks_specialIn X f;have b:=looks_takesIn (M:=M) X n;exact l.andThen (i.andThen ((show Looks M h (dataDescriptor? (some a) (some g)) (some (g,a)) from b.andThen .now).andThen (Looks.tag .now)))
def O2:entryFor table "BaseException.__getattribute__" = some Builtin.«object.__getattribute__» :=
 entryFor_alias (id' := "object.__getattribute__") (by kernel_rfl) (by first|rfl|decide +kernel) (by decide +kernel) (by kernel_rfl)
def slot_exc_ga:Slot "BaseException" "__getattribute__" "BaseException.__getattribute__" :=
 .of (owner := "BaseException") (n := "__getattribute__") (by rw[typeLookup_type,builtinLookup_eq_fast];kernel_rfl) (by decide +kernel) (by decide +kernel) (by decide +kernel)
  (by first|exact .inl (by decide +kernel)|exact .inr (by decide +kernel)) (by rw[isSubtype_type];kernel_rfl)
structure ExcK(K:Frag)(C:Addr):Prop where
 ga:findIn K (.ref C) "__getattribute__" = some (some (.builtin "BaseException.__getattribute__"))
 gn:findIn K (.ref C) "__getattr__" = some none
 cl:findIn K (.ref C) "__class__" = some (some (.builtin "object.__class__"))
 cg:specialIn K (.builtin "object.__class__") "__get__" = some (some (.builtin "getset_descriptor.__get__"))
 ct:takesIn K (.builtin "object.__class__")=some true
 mo:mroIn K C (.type "object")=some true
 mb:mroIn K C (.type "BaseException")=some true
 ic:(clsIn K C).isSome=true
def O6(X:K.In s.heap)(I:ExAt s.heap x ox C)(k:ExcK K C)(h:Q (.done (.ret (.ref C))) s) :
  wpAny (model prog w) A (Builtin.«object.__getattribute__» ⟨[.ref x,.str "__class__" tk],[]⟩) Q E s:=by
 obtain⟨f,g,d,t,os⟩:=s;have b:=I.type (M:=model prog w);have a:=Zaw (M:=model prog w) (x:=x) X k.cl k.cg k.ct;refine Ra (Rb (Ra (Rb (Ra (b.at (Ra (a.at ?_)))))));show wpAny _ _ (bindTo _ _ _ _) _ _ _;unfold bindTo;refine Ra (Rf (wpAny_call (Z13 X I k.mo ?_)));exact Rb h
def Z9z(X:K.In s.heap)(I:ExAt s.heap x ox C)(k:ExcK K C)(i:argsOk "BaseException.__getattribute__" ⟨[.ref x,nm],[]⟩)(h:Q () s):wpAny M A (checkBuiltinCall "BaseException.__getattribute__" ⟨[.ref x,nm],[]⟩) Q E s:=by
 obtain⟨j,g,d,t,os⟩:=s;have a:splitId "BaseException.__getattribute__" = some ("BaseException","__getattribute__"):=by decide +kernel
 have b:(Manifest.find? "BaseException").bind (·.attrs.lookup "__getattribute__")=some .slot:=by decide +kernel
 have l:builtinKind "BaseException.__getattribute__" = (Manifest.find? "BaseException").bind (·.attrs.lookup "__getattribute__"):=by simp only[builtinKind,a]
 have LI:Looks M j (isInstance (.ref x) (.type "BaseException")) true:=(I.type (M:=M)).andThen (looks_mroIn X k.mb);simp only[checkBuiltinCall,l,b,a];refine Ra (LI.at ?_);simp only[Bool.not_true,QaU,Rm];cases f:Manifest.signature? "BaseException.__getattribute__" with
 |none=>exact Rb h
 |some sig =>
  simp only[argsOk,f]at i;have h2:Bind.checkArgs "BaseException.__getattribute__" sig ⟨[.ref x,nm],[]⟩=pure ():=i;show wpAny M A (Bind.checkArgs "BaseException.__getattribute__" sig ⟨[.ref x,nm],[]⟩) Q E _;rw[h2];exact Rb h
def Z0w:Manifest.owners.lookup (String.ofList ['n','o','i','t','p','e','c','x','E','e','s','a','B'].reverse)=some Manifest.sig_BaseException:=by kernel_rfl
def Z6(a b:Ad):argsOk "BaseException.__getattribute__" ⟨[a,b],[]⟩:=by
 unfold argsOk;rw[signature?_of (id := "BaseException.__getattribute__") (n:=['_','_','e','t','u','b','i','r','t','t','a','t','e','g','_','_']) (o:=['n','o','i','t','p','e','c','x','E','e','s','a','B']) (by kernel_rfl) Z0w];kernel_rfl
def Y3(X:K.In s.heap)(I:ExAt s.heap x ox C)(k:ExcK K C)(h:Q (some (.ref C)) { s with toks:=s.toks+1 }):wpAny (model prog w) A (getAttr? (.ref x) "__class__") Q E s:=by
 obtain⟨i,g,d,t,os⟩:=s;have f:=I.type (M:=model prog w);have b:=looks_findIn (M:=model prog w) X k.ga;have a:=looks_findIn (M:=model prog w) X k.gn;unfold getAttr? getAttrBy? getAttrBy;refine Ra (wpAny_mkText (Ra (wpAny_attempt (Rf (Ra (f.at (Ra (b.at ?_))))))));show wpAny _ _ (getAttrByItsOwn _ _ _ _ _ _) _ _ _;unfold getAttrByItsOwn hookBefore;refine Ra (a.at ?_);refine Ra (wpAny_attempt (Rf ?_));show wpAny _ _ (boundAndCalled _ _ _) _ _ _;unfold boundAndCalled;rw[slot_exc_ga.bind];refine Ra (Rb ?_);refine wpAny_call (codeAny_call_builtin slot_exc_ga.plain O2 (Z9z X I k (Z6 _ _) (O6 X I k ?_)));exact handed_on rfl (Rb h)
def kitx_exc(k:ExcK K C):KitX K (.ref x) (.ref C) (λh=>ExAt h x ox C) where
 ty:=λ_ _ _ I=>I.type
 it:=λ_ _ X _=>by
  have hc:=k.ic;unfold clsIn at hc;split at hc
  .rename_i c' d' f b a;intro j i l s' k q;unfold isType loadHead;exact Ra (wpAny_loadPart (k _ _ (X _ _ a)) (Rb q))
  .cases hc
 ne:=λh tp dd its n sl X htp=>by
  refine Bool.eq_false_iff.mpr λq=>?_;have e:C=tp:=Value.ref.inj (beq_iff_eq.mp q);subst e;have hc:=k.ic;unfold clsIn at hc;split at hc
  .rename_i c' d' f b a;have z:=(X _ _ a).symm.trans htp;cases z
  .cases hc
 ca:=λX I q=>Y3 X I k q
end
end PySem.W
namespace PD
open PySem PySem.Spec PyProof.Rows L2
def Z39(C:Af)(b:Bool)(fa:En->Aa D):En->Aa D:=λenv=>match fa env with
 |some (.exc C')=>if C'=C then some (.bl b) else none
 |_=>none
section
variable {X:Cx}{m m1:Bool}{rs rs1:Ab Nat}{a:Ag}{fa:En->Aa D}{p p2 pos:Pos}{cn:Str}{C CC:Af}{b:Bool}
def Z59(T:PySem.W.ExcK X.K C)(I:Inv X pins σ H s)(hq:H q=some (.ext (nW q (.ref C))))(j:PySem.W.kitOne X.K (.ref C) c=some b)(h:∀tk,Q (.bool b) { s with toks:=tk }) :
  wpAny (model X.prog X.w) A (call (.builtin "isinstance") [.ref q,c]) Q E s:=by
 obtain⟨⟨i,l,a,f,n⟩,_⟩:=(show ObjOk X.prog X.w H s.heap q (.ext (nW q (.ref C))) from I.hok q _ hq)
 exact PySem.W.kia_one (PySem.W.kitx_exc (ox:=i) T) I.kIn ⟨a,f⟩ j (λz=>nomatch z) h
def D7{K:Frag}{σ:L2.St}{H:Hp}{Q:VK}(h:tD K m rs (Z39 C b fa) σ H Q):tD K m1 rs1 fa σ H λv H'=>∃q,v=.ref q/\H' q=some (.ext (nW q (.ref C)))/\∀H'',Same H' H''->Q (.bl b) H'':=by
 obtain⟨env,F,d,ok,e,q⟩:=h;unfold Z39 at e;split at e
 .rename_i j h1;split at e
  .rename_i f;subst f;cases e;refine⟨env,F,_,ok,h1,λv H' fp s r c=>?_⟩;simp only[Rep]at r;obtain⟨i,rfl,_,a⟩:=r;exact⟨i,rfl,a,λH'' s2=>q _ _ _ (s.trans s2) nS .nil⟩
  .cases e
 .cases e
def gK(T:PySem.W.ExcK X.K C)(B:PySem.W.kitOne X.K (.ref C) (.ref CC)=some b)(o:Gl X "isinstance")(y:X.mg "isinstance" = none)(t:QE X m1 rs1 a fa)(f:Gl X cn)(j:X.mg cn=some (.ref CC))(i:nDb cn:=by decide)
  (he:starEach [a,.Name cn p2] X.env=(false,eval a X.env)::starEach [.Name cn p2] X.env:=by rfl) (l:starEach [.Name cn p2] X.env=(false,eval (.Name cn p2) X.env)::starEach [] X.env:=by rfl) (hpl:(backTo pos (starEach [.Name cn p2] X.env)).any (·.1)=false:=by rfl) :
  QE X m rs (.Call (.Name "isinstance" p) [a,.Name cn p2] [] pos) (Z39 C b fa) :=
 .mk (L2.pe_callB (r:=λvs H Q=>∃q,vs=[.ref q,.ref CC]/\H q=some (.ext (nW q (.ref C)))/\Q (.bl b) H)
   (fun pins s σ H xs us Q I w h=>by
    obtain⟨q,rfl,hq,k⟩:=h;obtain⟨u,w',rfl,E,n⟩:=Z1i w;cases (show w'=Value.ref CC from n)
    cases (show u=Value.ref q from E)
    exact Z59 T I hq B λtk=>⟨.bl b,H,I.tok tk,rfl,k⟩)
   o y nD (pa_cons t (pa_cons (oW (v:=.ref CC) f j rfl i) pa_nil l) he) (by decide) (by decide) he hpl) λσ H Q h=>by
  obtain⟨env,F,d,ok,e,q⟩:=D7 (m1:=m1) (rs1:=rs1) h;refine⟨env,F,d,ok,e,λv H' fp s r c=>?_⟩;obtain⟨A,rfl,x,k⟩:=q v H' fp s r c;exact⟨A,rfl,x,k H' λ_ _ e=>e⟩
def L7(T:PySem.W.ExcK X.K C)(G:PySem.W.kitOne X.K (.ref C) (.type c)=some b)(x:Gl X "isinstance")(B:X.mg "isinstance" = none)(y:QE X m1 rs1 a fa)(f:Gl X cn)(l:X.mg cn=none)(j:bootBuiltins cn=some (.type c))(o:cn ≠ "__name__":=by decide)(i:nDb cn:=by decide)
  (he:starEach [a,.Name cn p2] X.env=(false,eval a X.env)::starEach [.Name cn p2] X.env:=by rfl) (n:starEach [.Name cn p2] X.env=(false,eval (.Name cn p2) X.env)::starEach [] X.env:=by rfl) (hpl:(backTo pos (starEach [.Name cn p2] X.env)).any (·.1)=false:=by rfl) :
  QE X m rs (.Call (.Name "isinstance" p) [a,.Name cn p2] [] pos) (Z39 C b fa) :=
 .mk (L2.pe_callB (r:=λvs H Q=>∃q,vs=[.ref q,.ty c]/\H q=some (.ext (nW q (.ref C)))/\Q (.bl b) H)
   (fun pins s σ H xs us Q I w h=>by
    obtain⟨q,rfl,hq,k⟩:=h;obtain⟨u,w',rfl,J,t⟩:=Z1i w;cases (show w'=Value.type c from t)
    cases (show u=Value.ref q from J)
    exact Z59 T I hq G λtk=>⟨.bl b,H,I.tok tk,rfl,k⟩)
   x B nD (pa_cons y (pa_cons (Z7a (v:=.ty c) f l j rfl o i) pa_nil n) he) (by decide) (by decide) he hpl) λσ H Q h=>by
  obtain⟨env,F,d,ok,e,q⟩:=D7 (m1:=m1) (rs1:=rs1) h;refine⟨env,F,d,ok,e,λv H' fp s r c=>?_⟩;obtain⟨E,rfl,A,k⟩:=q v H' fp s r c;exact⟨E,rfl,A,k H' λ_ _ e=>e⟩
end
def nL(g:En->Res):En->Res:=λenv=>noX (g env)
section
variable {X:Cx}{E:XK}{st:Stmt}{sts:Ab Stmt}{g:En->Res}{i:Nat}{f:En->Aa D}
theorem PSs.nox(h:PSs X.nox sts t):PSs X sts t:=λpins s σ H D I hw =>
 Rc (h pins s σ H D (I.wish _) hw) (λ_ _ q=>q.unwish) λ_ _ z=>False.elim z
def eU(h:QSs X.nox sts g):zV X E sts (nL g):=λpins s σ H D I ⟨P,env,IS,q⟩=>PSs.nox h pins s σ H D I ⟨P,env,IS,tH q⟩
def Z7o(env:En):noX (aW i f env)=aW i f env:=by unfold aW;split<;>rfl
def gW(h:QS X.nox st (aW i f)):QSx X E st (aW i f):=by
 have z:=Z1y (E:=E) h;simp only[Z7o]at z;exact z
end
section
variable {K:Frag}{C CC:Af}{b:Bool}
def yA:PySem.W.kitOne K (.ref C) (.ref C)=some true:=by unfold PySem.W.kitOne;simp
def Z7D(hc:PySem.W.clsIn K CC=some cd)(f:PySem.W.typeIn K (.ref CC)=some (.type "type"))(hs:PySem.W.subIn K (.ref C) (.ref CC)=some b)(a:(C==CC)=false):PySem.W.kitOne K (.ref C) (.ref CC)=some b:=by
 have h1:(Value.ref C==Value.ref CC)=false:=Bool.eq_false_iff.mpr λq=>by
  have e:C=CC:=Value.ref.inj (beq_iff_eq.mp q);rw[e]at a;simp at a
 unfold PySem.W.kitOne PySem.W.kitCls;rw[h1];simp[hc,f,hs]
def Z7E(a:PySem.W.kitMeta T=true)(hs:PySem.W.subIn K (.ref C) (.type T)=some b):PySem.W.kitOne K (.ref C) (.type T)=some b:=by
 have h1:(Value.ref C==Value.type T)=false:=Bool.eq_false_iff.mpr λq=>by cases beq_iff_eq.mp q
 unfold PySem.W.kitOne PySem.W.kitCls;rw[h1];simp[a,hs]
def Z8i(X:K.In h)(l:K.lookup N=some ⟨c,d,.dict es n,sl⟩)(f:es.toList.all (λe=>match e.key with | .str _ _=>true|_=>false)=true)(hi:nsIn K N "__init__" = some none) :
  ∃m,h.Ns N m/\m "__init__" = none:=by
 have a:=X _ _ l;have b:h.Ns N (h.nsMap N):=.of_isNs (by unfold Heap.isNs;rw[a];rw[Array.all_toList]at f;exact f);refine⟨_,b,?_⟩;obtain⟨o,p,ep,i,hd,_,j⟩:=b;rw[i]at a;cases a;cases hd;rw[<- j];unfold nsIn at hi;rw[l]at hi;dsimp only at hi;split at hi
 .cases hi
 .rename_i he;unfold nsFind findBy;rw[<- Array.find?_toList,he];rfl
def Z9u
  {c c1 c2:Ad}{d d1 d2:Aa Af}{es es1:Ae DictEntry}{n n1:Nat}{sl sl1 sl2:Ae (Aa Ad)}{nm1 q1:Str}{bs1 mro1:Ab Ad}{hd1:Bool}{sn1:Ab Str}{sub1:Ab Ad}{ab1:Bool}{col1:Aa Bool}{del1:Bool}
  (l:K.lookup C=some (excClassObj nm q C N bs [.ref S,.type "ValueError",.type "Exception",.type "BaseException",.type "object"] hdct sn sub ab col dd k0 k1 k2 k3 k5 "ValueError.__new__"))
  (lN:K.lookup N=some ⟨c,d,.dict es n,sl⟩) (hk:es.toList.all (λe=>match e.key with | .str _ _=>true|_=>false)=true) (hi:nsIn K N "__init__" = some none)
  (lS:K.lookup S=some ⟨c2,d2,.cls ⟨nm1,bs1,mro1,NS,q1,hd1,sn1,sub1,ab1,col1,del1⟩,sl2⟩) (lT:K.lookup NS=some ⟨c1,d1,.dict es1 n1,sl1⟩) (hk1:es1.toList.all (λe=>match e.key with | .str _ _=>true|_=>false)=true) (hi1:nsIn K NS "__init__" = some none) :
  ∀base:Ah,K.In base->ExC base C:=λbase X=>by
 obtain⟨m,b,f⟩:=Z8i X lN hk hi;obtain⟨m1,a,h1⟩:=Z8i X lT hk1 hi1;exact⟨⟨[.type "ValueError",.type "Exception",.type "BaseException",.type "object"],_,N,nm,q,bs,hdct,sn,sub,ab,col,dd,k0,k1,k2,k3,k5,_,m,"ValueError",_,_,"ValueError",_,_,X _ _ l,b,f,.own (X _ _ lS) a h1 .base,PySem.F.excBase_ValueError,PySem.F.excBase_ValueError,by decide +kernel⟩⟩
def Z9y(l:K.lookup C=some ⟨c,d,.cls cd,sl⟩):(PySem.W.clsIn K C).isSome=true:=by
 unfold PySem.W.clsIn;rw[l];rfl
end
def fNX(f:En->Aa D):En->Aa D:=λenv=>match f env with
 |some (.exc _)=>none
 |r=>r
def tXE(K:Frag)(E:XK)(pre:En->Bool)(f:En->Aa D):TE:=λσ H _=>∃env F C,EnvOk K H σ env F/\f env=some (.exc C)/\pre env=true/\∀H',Same H H'->E (.ref C) none H'
def fD:En->Bool:=λ_=>true
def xI(f:En->Aa D)(p:En->Bool):En->Bool:=λenv=>(f env).isSome&&p env
def Z4C(i:Nat):En->Bool:=λenv=>match env[i]? with
 |some (some (true,.lst _))=>true
 |_=>false
def rOr(pre:En->Bool)(f:En->Aa D)(g:En->Res):En->Res:=λenv=>match f env with
 |some (.exc C)=>if pre env=true then .ret (.exc C) else .bad
 |_=>noX (g env)
def PE.mono(h:PE X e t)(hi:∀σ H Q,t' σ H Q->t σ H Q):PE X e t':=λpins s σ H Q I q=>h pins s σ H Q I (hi σ H Q q)
section
variable {X:Cx}{E:XK}{st:Stmt}{g:En->Res}{f:En->Aa D}{t:TS}
def jG(l:QS X st g)(j:PS X st t)(n:∀D σ H Q,tXE X.K E pre f σ H Q->t D σ H):QSx X E st (rOr pre f g):=λpins s σ H D I ⟨P,env,IS,q⟩=>by
 obtain⟨F,hF⟩:=IS.ex;by_cases a:∃C,f env=some (.exc C)
 .obtain⟨C,a⟩:=a;by_cases b:pre env=true
  .have i:F0 X.K P E D (.ret (.exc C)):=by
    have e:rOr pre f g env=.ret (.exc C):=by unfold rOr;rw[a];exact if_pos b
    rw[e]at q;exact q
   exact j pins s σ H D I (n D σ H (λ_ _=>True) ⟨env,F,C,hF.ok,a,b,λH' s'=>i H' (IS.same.trans s')⟩)
  .have e:rOr pre f g env=.bad:=by unfold rOr;rw[a];exact if_neg b
   rw[e]at q;exact q.elim
 .have i:F0 X.K P E D (noX (g env)):=by
   have e:rOr pre f g env=noX (g env):=by
    unfold rOr;split
    .rename_i C h;exact absurd ⟨C,h⟩ a
    .rfl
   rw[e]at q;exact q
  exact l pins s σ H D I ⟨P,env,IS,tH i⟩
end
section
variable {P:Aj}{w:Ak}{K:Frag}{mg:Str->Aa Ad}{base:Ah}{N:Ab Str}{qual:Str}{scope:Scope}{f:Af}{cd:Ad}{A:Ai}{outer:Ab Env}{s0:Ac}{H0:Hp}{E:XK}{m1:Bool}{rs1:Ab Nat}{e:Ag}{es:Ab Ag}{fs:En->Aa (Ab D)}{p pos:Pos}
def dS(c:dM P w K mg base x dds k n F')(j:Room k (cxE P w K mg base N qual scope f cd A outer s0 H0 E).A)(i:NArgs na fs)(l:na+dds.length=n)(t:QA (cxE P w K mg base N qual scope f cd A outer s0 H0 E) m1 rs1 (e::es) fs)(o:Gl (cxE P w K mg base N qual scope f cd A outer s0 H0 E) x:=by rfl)
  (a:nDb x:=by decide) (he:starEach (e::es) (cxE P w K mg base N qual scope f cd A outer s0 H0 E).env=(false,eval e (cxE P w K mg base N qual scope f cd A outer s0 H0 E).env)::starEach es (cxE P w K mg base N qual scope f cd A outer s0 H0 E).env:=by rfl) (hpl:(backTo pos (starEach es (cxE P w K mg base N qual scope f cd A outer s0 H0 E).env)).any (·.1)=false:=by rfl) :
  PE (cxE P w K mg base N qual scope f cd A outer s0 H0 E) (.Call (.Name x p) (e::es) [] pos) (tXE K E pre (aJ F' dds fs)):=by
 obtain⟨B,fd,ps,dvs,ds,G,v,y,u,hd,b⟩:=c.ex;refine PE.mono (L2.pe_call (X:=cxE P w K mg base N qual scope f cd A outer s0 H0 E) G j o v y u hd Z1f t a he hpl) λσ H Q ⟨env,F,C,ok,h,hp,q⟩=>?_;unfold aJ at h;cases h1:fs env with
 |none=>rw[h1]at h;cases h
 |some xs =>
  rw[h1]at h;exact⟨env,F,xs,ok,h1,λvs H' fp s r c=>⟨xs++dds,.exc C,fp++[],by rw[Qav,i.len env xs h1];exact l,(Reps.weak _ _ _ r).append (b H'),h,λH2 s2=>q H2 (s.trans s2)⟩⟩
def dR(c:dM P w K mg base x dds k n F')(u:Room k (cxE P w K mg base N qual scope f cd A outer s0 H0 E).A)(o:NArgs na fs)(i:na+dds.length=n)(I:QA (cxE P w K mg base N qual scope f cd A outer s0 H0 E) m1 rs1 (e::es) fs)(B:Gl (cxE P w K mg base N qual scope f cd A outer s0 H0 E) x:=by rfl)
  (j:nDb x:=by decide) (he:starEach (e::es) (cxE P w K mg base N qual scope f cd A outer s0 H0 E).env=(false,eval e (cxE P w K mg base N qual scope f cd A outer s0 H0 E).env)::starEach es (cxE P w K mg base N qual scope f cd A outer s0 H0 E).env:=by rfl) (hpl:(backTo pos (starEach es (cxE P w K mg base N qual scope f cd A outer s0 H0 E).env)).any (·.1)=false:=by rfl) :
  QE (cxE P w K mg base N qual scope f cd A outer s0 H0 E) true [] (.Call (.Name x p) (e::es) [] pos) (fNX (aJ F' dds fs)):=by
 obtain⟨M,fd,ps,dvs,ds,G,J,L,a,hd,l⟩:=c.ex;refine .mk (L2.pe_call (X:=cxE P w K mg base N qual scope f cd A outer s0 H0 E) G u B J L a hd Z1f I j he hpl) λσ H Q ⟨env,F,d,ok,h,q⟩=>?_;have y:aJ F' dds fs env=some d/\∀C,d ≠ .exc C:=by
  unfold fNX at h;split at h
  .cases h
  .rename_i i;exact⟨h,λC e=>i C (by rw[h,e])⟩
 obtain⟨h2,t⟩:=y;unfold aJ at h2;cases h1:fs env with
 |none=>rw[h1]at h2;cases h2
 |some xs =>
  rw[h1]at h2;refine⟨env,F,xs,ok,h1,λvs H' fp s r c=>⟨xs++dds,d,fp++[],by rw[Qav,o.len env xs h1];exact i,(Reps.weak _ _ _ r).append (l H'),h2,?_⟩⟩;have z:∀v H2 fp',Same H' H2->Rep K true H2 d v fp'->(∀b∈fp',H' b=none)->fp'.Nodup->Q v H2:=λv H2 fp' s2 r2 h2 nd=>q v H2 fp' (s.trans s2) r2 ⟨λb a=>.inl (s.free (h2 b a)),λ_=>⟨nd,λb a=>s.free (h2 b a)⟩⟩;cases d<;>first|exact z|exact absurd rfl (t _)
end
section
variable {X:Cx}{E:XK}{rs:Ab Nat}{iter tg:Ag}{src:En->Aa (Ab D)}{t:D->En->Aa En}{body:Ab Stmt}{g:En->Res}{pos:Pos}
open Classical in
def K9(hc:X.calm=true)(hp:PassesOwn (model X.prog X.w) X.A X.env X.xe)(hi:QI X tg rs iter src)(p:QG X tg t)(a:zV X E body g)(hs:∀x,foldedSetIterable iter X.env x=pure x:=by intro _;rfl) :
  QSx X E (.For tg iter body [] pos) (iY rs src t g):=λpins s σ H D IV h=>Z0u hp hc hi p a hs pins s σ H D IV (by
 obtain⟨P,env,I,q⟩:=h;obtain⟨F,hF⟩:=I.ex;unfold iY at q;split at q
 .rename_i ds h1;refine⟨env,nrm env F,ds,hF.nrm.ok,h1,λJ H1 fp s1 gv dm cd=>?_⟩;have ap:=qU hF cd
  let O:Af->Prop:=λb=>∃j d,(fz rs env)[j]?=some (some (true,d))/\b∈nrm env F j
  let l:Hp:=λb=>if O b then none else H1 b
  have y:EnvS X.K P H1 σ (fz rs env) (nrm env F):=(hF.nrm.fz rs).grow s1;have B:∀b,O b->(∀xs,H1 b≠some (.tup xs))/\∀o u,H1 b≠some (.frz o u):=λb ⟨j,d,e,a⟩=>by
   obtain⟨v,hv,r⟩:=y.ok j true d e;exact Rep.kind _ _ _ r b a
  have pn:∀{b:Af},¬O b->l b=H1 b:=λhn=>if_neg hn;have po:∀{b:Af},O b->l b=none:=λf=>if_pos f;have sP1:Same l H1:=λb o e=>by
   by_cases f:O b
   .rw[po f]at e;cases e
   .rw[pn f]at e;exact e
  have L:Same P l:=λb o e=>by
   have f:¬O b:=λ⟨j,d,N,a⟩=>by
    have:=(y.own j d N).2.1 b a;rw[this]at e;cases e
   rw[pn f];exact s1 _ _ (I.same _ _ e)
  have S:∀b∈fp,¬O b:=λb a ⟨j,d,N,hb'⟩=>ap j d N b hb' a;have kp:∀{n:Hp},Same l n->Kp fp H1 n:=λW=>⟨λb a o e=>W _ _ (by rw[pn (S b a)];exact e),
   λb xs e=>W _ _ (by rw[pn (λf=>(B b f).1 _ e)];exact e),
   λb o u e=>W _ _ (by rw[pn (λf=>(B b f).2 _ _ e)];exact e)⟩
  refine⟨λi k σ' H'=>i<=ds.length/\k=ds.length-i/\∃env',SInv X.K l H' σ' env'/\F0 X.K P E D (pI t g (ds.drop i) env'),
   ⟨ds.length,QaY _,rfl,fz rs env,⟨sP1,by rw[yH];exact I.len,nrm env F,y.ok,λj d e=>?_⟩,by simpa using q⟩,?_⟩
  .obtain⟨a1,a2,a3,a4⟩:=y.own j d e;exact⟨a1,λb a=>po ⟨j,d,e,a⟩,a3,a4⟩
  .rintro i k σ' H' ⟨hi,hk,env',I',q'⟩;have gi:=gv H' (kp I'.same) i;by_cases M:i<ds.length
   .right;have hd:ds[i]?=some ds[i]:=Qaj M;obtain⟨go,hy⟩:=gi.1 _ hd;have R:ds.drop i=ds[i]::ds.drop (i+1):=Qbl M;rw[R]at q';refine⟨go,λσ2 n=>∃env2,SInv X.K l n σ2 env2/\F0 X.K P E D (pI t g (ds.drop (i+1)) env2),λσ2 n ⟨env2,G,q2⟩=>⟨ds.length-(i+1),by omega,M,rfl,env2,G,q2⟩,λx n y2=>?_⟩;obtain⟨sm2,f2,r2,Q⟩:=hy x n y2;unfold pI at q';cases U:t ds[i] env' with
    |none=>rw[U]at q';exact q'.elim
    |some env1 =>
     rw[U]at q';simp only at q';have G:=I'.grow sm2;obtain⟨F2,T⟩:=G.ex;refine⟨l,env',F2,_,f2,env1,G.same,G.len,T,r2,λj d' N b a z=>?_,U,λσ3 I3=>⟨l,env1,I3,?_⟩⟩
     .have Y:=(T.own j d' N).2.1 b a;rw[pn (S b (Q b z))]at Y;obtain⟨o,ho⟩:=dm b (Q b z);rw[Y]at ho;cases ho
     .cases p:g env1 with
      |next e2=>rw[p]at q';exact λσ4 H4 I4=>⟨e2,I4,q'⟩
      |cont e2=>rw[p]at q';exact λσ4 H4 I4=>⟨e2,I4,q'⟩
      |brk e2=>rw[p]at q';exact λσ4 H4 I4=>q' σ4 H4 (I4.lower L)
      |ret d =>
       rw[p]at q';cases d with
       |exc C=>exact λH4 s4=>q' H4 (L.trans s4)
       |_=>exact λv H4 fp4 s4 r4 n4 nd4=>q' v H4 fp4 (L.trans s4) r4 (λb a=>L.free (n4 b a)) nd4
      |bad=>rw[p]at q';exact q'.elim
   .left;have Z:i=ds.length:=by omega
    rw[Z,List.drop_length]at q';exact⟨gi.2 (by omega),q' σ' H' (I'.lower L)⟩
 .exact q.elim)
end
def Z4K{P:Aj}{w:Ak}{K:Frag}{mg:Str->Aa Ad}{base:Ah}{N:Ab Str}{qual:Str}{scope:Scope}{f:Af}{cd:Ad}{A:Ai}{outer:Ab Env}{s0:Ac}{H0:Hp}{E:XK} :
  PassesOwn (model P w) (cxE P w K mg base N qual scope f cd A outer s0 H0 E).A (cxE P w K mg base N qual scope f cd A outer s0 H0 E).env (cxE P w K mg base N qual scope f cd A outer s0 H0 E).xe:=PassesOwn.«leaving»
section
variable {X:Cx}{E:XK}{pre:En->Bool}{f fa fb:En->Aa D}{a b e:Ag}{pos p:Pos}{x:Str}{i:Nat}{m1 m2:Bool}{rs1 rs2:Ab Nat}
def Z9b(b:PE X a (tXE X.K E pre f))(hs:wE (.Constant (.int n) k p2):=by exact λ_ _=>rfl):PE X (.Subscript a (.Constant (.int n) k p2) pos) (tXE X.K E pre f):=PE.mono (Z4J Z0L b pe_int hs) λ_ _ _ h=>h
def Z79(i:QE X true [] a fa)(j:PE X b (tXE X.K E pre f)):PE X (.BinOp a .Add b pos) (tXE X.K E (xI fa pre) f) :=
 PE.mono (L2.pe_op Z0A i j) λσ H Q ⟨env,F,C,ok,h,hp,q⟩=>by
  unfold xI at hp;rw[Qam]at hp;obtain⟨d,hd⟩:=Qa5.mp hp.1;exact⟨env,F,d,ok,hd,λv H1 fp s r c=>⟨env,F,C,ok.same s,h,hp.2,λH' s'=>q H' (s.trans s')⟩⟩
def Z76(b:Gl X "tuple")(i:X.mg "tuple" = none)(j:PE X a (tXE X.K E pre f))(he:starEach [a] X.env=(false,eval a X.env)::starEach [] X.env:=by rfl)(hpl:(backTo pos (starEach [] X.env)).any (·.1)=false:=by rfl) :
  PE X (.Call (.Name "tuple" p) [a] [] pos) (tXE X.K E pre f):=PE.mono (L2.pe_callTy pV b i yV (pa_cons j pa_nil he) (by decide) (by decide) he hpl) λ_ _ _ h=>h
def Z77(c:F4 X.prog X.w X.K X.mg X.base x C k n F')(o:Room (k+1) X.A)(u:QE X m1 rs1 a fa)(y:QE X m2 rs2 b fb)(he:PE X e (tXE X.K E pre f))(t:Gl X x:=by rfl)
  (i:nDb x:=by decide) (h1:starEach [a,b,e] X.env=(false,eval a X.env)::starEach [b,e] X.env:=by rfl) (h2:starEach [b,e] X.env=(false,eval b X.env)::starEach [e] X.env:=by rfl) (h3:starEach [e] X.env=(false,eval e X.env)::starEach [] X.env:=by rfl) (hpl:(backTo pos (starEach [b,e] X.env)).any (·.1)=false:=by rfl) :
  PE X (.Call (.Name x p) [a,b,e] [] pos) (tXE X.K E (xI fa (xI fb pre)) f):=by
 obtain⟨J,fd,ps,M,G,I,j⟩:=c.ex;refine PE.mono (L2.pe_make M G o t I j .nil U5 (pa_cons u (pa_cons y (pa_cons he pa_nil h3) h2) h1) i h1 hpl) λσ H Q ⟨env,F,C',ok,h,hp,q⟩=>?_;unfold xI at hp;rw[Qam,Qam]at hp;obtain⟨d,hd⟩:=Qa5.mp hp.1;obtain⟨B,l⟩:=Qa5.mp hp.2.1;exact⟨env,F,d,ok,hd,λv H1 fp s r c=>⟨env,F,B,ok.same s,l,λv2 H2 fp2 s2 r2 c2=>⟨env,F,C',(ok.same s).same s2,h,hp.2.2,λH' s'=>q H' ((s.trans s2).trans s')⟩⟩⟩
def Z7b(he:PE X e (tXE X.K E (Z4C i) f))(A:X.N[i]?=some x:=by rfl)(y:Vis X.env.scope x:=by first|exact Or.inl rfl|exact Or.inr (Or.inl rfl)|exact Or.inr (Or.inr rfl))(hd:nDb x:=by decide)(u:(x==("__classdict__" : Str))=false:=by decide)
  (l:attributeBase (.Name x p) "append" X.env (eval (.Name x p) X.env)=eval (.Name x p) X.env:=by rfl)
  (o:((backTo cpos (starEach [e] X.env)).all (fun x=>!x.1) && (backToKw cpos (keywordEach [] X.env)).all (fun x=>x.1.isSome)
   && decide (([e]:Ab Ag).length+([]:Ab Keyword).length+(if ([]:Ab Keyword).isEmpty then 0 else 1)<30))=true:=by rfl)
  (j:(apos.endLine==cpos.line)=true:=by rfl) (n:starEach [e] X.env=(false,eval e X.env)::starEach [] X.env:=by rfl) (b:(backTo cpos (starEach [] X.env)).any (·.1)=false:=by rfl) :
  PE X (.Call (.Attribute (.Name x p) "append" apos) [e] [] cpos) (tXE X.K E (Z4C i) f) :=
 PE.mono (B6 Qbp PySem.F.slot_list_append PySem.F.type_list_append pA (kH A y hd u) (pa_cons he pa_nil n) l o j n b) λσ H Q ⟨env,F,C,ok,h,hp,q⟩=>by
  have t:=hp;unfold Z4C at hp;split at hp
  .rename_i ds h2;obtain⟨v,w,r⟩:=ok i true _ h2;obtain⟨a,vs,B,rfl,hs,_,_⟩:=cC r;exact⟨.ref a,w,.inl ⟨rfl,vs,hs⟩,env,F,C,ok,h,t,q⟩
  .cases hp
end
section
variable {pre:En->Bool}{f:En->Aa D}{g:En->Res}{env:En}{C:Af}
def jQ(h:f env=some (.exc C))(a:pre env=true):rOr pre f g env=.ret (.exc C):=by unfold rOr;rw[h];exact if_pos a
def gG(h:f env=some d)(hd:∀C,d ≠ .exc C):rOr pre f g env=noX (g env):=by
 unfold rOr;split
 .rename_i C h2;rw[h]at h2;cases h2;exact absurd rfl (hd C)
 .rfl
def eL(h:f env=some d)(hd:∀C,d ≠ .exc C):fNX f env=some d:=by
 unfold fNX;split
 .rename_i C h2;rw[h]at h2;cases h2;exact absurd rfl (hd C)
 .exact h
end
def Z5T(K:Frag)(P:Hp)(A:Ab Af)(E:XK)(D:uL)(r:Res)(ws:Ab PD.D):Prop:=match r with
 | .ret (.exc C)=>∀H fw,Hw K H A ws fw->Same P (Hid H fw)->E (.ref C) none H
 |r=>F3 K P A D r ws
def xR(g:En->Ab D->Res×Ab D):En->Ab D->Res×Ab D:=λenv ws=>(noX (g env ws).1,(g env ws).2)
def xJ{K:Frag}{P:Hp}{A:Ab Af}{E:XK}{D:uL}{r:Res}{ws:Ab PD.D}(h:Z5T K P A E D (noX r) ws):F3 K P A D r ws:=by
 cases r with
 |ret d=>cases d<;>first|exact h|exact h.elim
 |_=>exact h
def Z1m(K:Frag)(E:XK)(A:Ab Af)(g:En->Ab D->Res×Ab D):TS:=λD σ H=>∃P env ws,SInvG K P H σ env A ws/\Z5T K P A E D (g env ws).1 (g env ws).2
def QSxg(X:Cx)(E:XK)(A:Ab Af)(st:Stmt)(g:En->Ab D->Res×Ab D):Prop:=PS X st (Z1m X.K E A g)
def QSsxg(X:Cx)(E:XK)(A:Ab Af)(st:Ab Stmt)(g:En->Ab D->Res×Ab D):Prop:=PSs X st (Z1m X.K E A g)
section
variable {X:Cx}{E:XK}{A:Ab Af}{a:Af}{st:Stmt}{sts sa sb:Ab Stmt}{g h:En->Ab D->Res×Ab D}{pos:Pos}{c:Ag}{b':En->Ab D->Aa (Bool×Ab D)}{f:En->Aa D}{t:TS}
def QSxg.mk(h:PS X st t)(hi:∀D σ H,Z1m X.K E A g D σ H->t D σ H):QSxg X E A st g:=λpins s σ H D I q=>h pins s σ H D I (hi D σ H q)
def QSsxg.mk(h:PSs X sts t)(hi:∀D σ H,Z1m X.K E A g D σ H->t D σ H):QSsxg X E A sts g:=λpins s σ H D I q=>h pins s σ H D I (hi D σ H q)
def K8(h:QSg X A st g):QSxg X E A st (xR g):=.mk h λD σ H ⟨P,env,ws,I,q⟩=>⟨P,env,ws,I,xJ q⟩
def B2:QSsxg X E A [] (λenv ws=>(.next env,ws)):=.mk vX λD σ H ⟨P,env,ws,I,q⟩=>q σ H I
def sX(h1:QSxg X E A st g):QSsxg X E A [st] g:=.mk (oV h1) λD σ H q=>q
def kD(h1:QSxg X E A st g)(h2:QSsxg X E A sts h):QSsxg X E A (st::sts) (cD g h):=.mk (kG h1 h2) λD σ H ⟨P,env,ws,I,q⟩=>by
 refine⟨P,env,ws,I,?_⟩;unfold cD at q;cases a:g env ws with
 |mk r ws' =>
  rw[a]at q;cases r with
  |next env'=>exact λσ' H' I'=>⟨P,env',ws',I',q⟩
  |ret d=>cases d<;>exact q
  |brk _=>exact q
  |cont _=>exact q
  |bad=>exact q
def Z1x(hc:QTg X.nox A c b')(a:QSsxg X E A sa g)(b:QSsxg X E A sb h):QSxg X E A (.If c sa sb pos) (nF b' g h):=.mk (Z1G (PT.nox hc) a b) λD σ H ⟨P,env,ws,I,q⟩=>by
 unfold nF at q;split at q
 .rename_i ws' h1;exact⟨P,env,ws,true,ws',I,h1,λH' I'=>zN ⟨P,env,ws',I',q⟩⟩
 .rename_i ws' h1;exact⟨P,env,ws,false,ws',I,h1,λH' I'=>zO ⟨P,env,ws',I',q⟩⟩
 .exact q.elim
def rA(φ:En->Ab D->En)(pre:En->Bool)(f:En->Aa D)(g:En->Ab D->Res×Ab D):En->Ab D->Res×Ab D:=λenv ws=>match f (φ env ws) with
 |some (.exc C)=>if pre (φ env ws)=true then(.ret (.exc C),ws) else(.bad,ws)
 |_=>xR g env ws
def Z5U(K:Frag)(A:Ab Af)(φ:En->Ab D->En):Prop:=∀P H σ env ws,SInvG K P H σ env A ws->∃F,EnvOk K H σ (φ env ws) F
def U6{K:Frag}:Z5U K A (λenv _=>env):=λP H σ env ws I=>I.eok
def Z0x(a:Af):En->Ab D->En:=λenv ws=>match ws with
 |[w]=>opn a w env
 |_=>env
def Z2L{K:Frag}:Z5U K [a] (Z0x a):=λP H σ env ws I=>by
 unfold Z0x;split
 .exact I.opn
 .exact I.eok
def K7(j:Z5U X.K A φ)(n:QSg X A st g)(l:PS X st t)(o:∀D σ H Q,tXE X.K E pre f σ H Q->t D σ H):QSxg X E A st (rA φ pre f g):=λpins s σ H D I ⟨P,env,ws,IS,q⟩=>by
 obtain⟨F,hF⟩:=j P H σ env ws IS;by_cases a:∃C,f (φ env ws)=some (.exc C)
 .obtain⟨C,a⟩:=a;by_cases b:pre (φ env ws)=true
  .have e:rA φ pre f g env ws=(.ret (.exc C),ws):=by unfold rA;rw[a];exact if_pos b
   rw[e]at q;obtain⟨fw,W,i⟩:=IS;exact l pins s σ H D I (o D σ H (λ_ _=>True) ⟨_,F,C,hF,a,b,λH' s'=>q H' fw (W.same s') (i.same.trans (jC s'))⟩)
  .have e:rA φ pre f g env ws=(.bad,ws):=by unfold rA;rw[a];exact if_neg b
   rw[e]at q;exact q.elim
 .have e:rA φ pre f g env ws=xR g env ws:=by
   unfold rA;split
   .rename_i C h;exact absurd ⟨C,h⟩ a
   .rfl
  rw[e]at q;exact n pins s σ H D I ⟨P,env,ws,IS,xJ q⟩
end
def Z6f(K:Frag)(n:Nat)(g:Af->D->Ab D->Aa (D×D)):Sp:=λvs H Q E=>∃a us w ds fw fps d w',vs=.ref a::us/\ds.length=n/\Hw K H [a] [w] fw/\Reps K false (Hid H fw) ds us fps/\g a w ds=some (d,w') /\
 match d with
 | .exc C=>∀H' fw',Hw K H' [a] [w'] fw'->Same (Hid H fw) (Hid H' fw')->E (.ref C) none H'
 |d=>∀v H',SInvG K (Hid H fw) H' [some v] [some (true,d)] [a] [w']->Q v H'
def Z3W{K:Frag}{n:Nat}{g:Af->D->Ab D->Aa (D×D)}{vs:Ab V}{H:Hp}{Q:VK}{E:XK}(h:Z6f K n g vs H Q E):vs.length=n+1:=by
 obtain⟨a,us,w,ds,fw,b,d,w',rfl,h1,_,h2,_⟩:=h;rw[Qaf,h2.length,h1]
def FunD.okGE{P:Aj}{w:Ak}{K:Frag}{mg:Str->Aa Ad}{base:Ah}{x qual:Str}{st:Stmt}{f:Af}{fd:FuncData}{N ps:Ab Str}{k n L:Nat}{G:Af->En->Ab D->Res×Ab D}(F:FunD K x qual st f fd)(S:eT N ps (aR st))(t:ps.length=n+1)(y:N.length=L)
  (l:∀(a:Af) (i:Ad) (A:Ai) (outer:Ab Env) (s:Ac) (H:Hp) (E:XK),Room k (A.deeper (envOfC qual (aR st) s.heap.objs.size f i))->QSsxg (cxE P w K mg base N qual (aR st) f i A outer s H E) E [a] (cB st) (G a)) :
  gT P w K mg base (CXe P w) (k+1) f fd ps (Z6f K n (wW L G)):=by
 subst y;obtain⟨M,T,O,kV,I,R,an,i,ct,C,rfl,u,o⟩:=F.ex;refine X4 u o S (λvs H Q E h=>(Z3W h).trans t.symm) λA outer s H vs Q E hr hsp=>?_;obtain⟨a,us,w,ds,fw,p,d,w',rfl,h1,W,h2,h3,q⟩:=hsp;have hs:Reps K false (Hid H fw) (.fn a [] []::ds) (.ref a::us) ([]++p):=Reps.consR (by simp only[Rep];exact⟨trivial,iV⟩) h2;refine⟨_,l a i A outer s H E hr,Hid H fw,enStart N.length (.fn a [] []::ds),[w],⟨fw,W,mL hs⟩,?_⟩;unfold wW at h3;split at h3
 .rename_i d' B j;cases h3;simp only[j];cases d<;>first|exact λv H' fp fw' W' s' r fr nd=>q v H' ⟨fw',W',qT s' r nd fr⟩|exact λH' fw' W' s'=>q H' fw' W' s'
 .rename_i J B j;cases h3;simp only[j];exact λσ' H' ⟨fw',W',I'⟩=>q .non H' ⟨fw',W',qT I'.same mQ Qaz (λb l=>(by cases l))⟩
 .cases h3
open Classical in
def zA{α:Type}(φ:Af->α)(z:α):α:=if h:∃r,∀a,φ a=r then h.choose else z
def Z3y{α:Type}{b:Af->α}{z r:α}(h:∀a,b a=r):zA b z=r:=by
 have f:∃r,∀a,b a=r:=⟨r,h⟩;unfold zA;rw[dif_pos f,<- h 0];exact(f.choose_spec 0).symm
def Z3x{α:Type}{b:Af->α}{z r:α}(e:zA b z=r)(h:z≠r):∀a,b a=r:=by
 unfold zA at e;split at e
 .rename_i f;intro a;rw[f.choose_spec a,e]
 .exact absurd e h
def wY:Res×Ab D->Aa (D×Ab D)
 |(.ret d,ws)=>some (d,ws)
 |_=>none
def T8(i:Nat)(f:En->Aa D)(h:Af->En->Ab D->Res×Ab D):En->Ab D->Res×Ab D:=λenv ws=>match f env with
 | some (.obj C ns ds)=>if pln (.obj C ns ds)=true then
   (match zA (fun a=>(wY (h a (env.set i (some (true,.fn a [] []))) (ws ++ [.obj C ns ds]))).map fun p=>(p.1,p.2.take ws.length,decide (p.2.length=ws.length + 1))) none with
    |some (d,ws',true)=>(.ret d,ws')
    |_=>(.bad,ws))
  else(.bad,ws)
 |_=>(.bad,ws)
section
variable {K:Frag}{P H H':Hp}{σ:L2.St}{env:En}{w:D}{fp fw:Ab Af}{A:Ab Af}{ws:Ab D}{a:Af}
def SInvG.made{i:Nat}(I:SInvG K P H σ env A ws)(s:Same H H')(r:Rep K true H' w (.ref a) fp)(p:fp.Nodup)(fr:∀b∈fp,H b=none)(n:pln w=true):SInvG K P H' (σ.set i (some (.ref a))) (env.set i (some (true,.fn a [] []))) (A++[a]) (ws++[w]):=by
 obtain⟨fw,W,f⟩:=I;have h:∀b∈fw,b∉fp:=λb hb hz=>by
  obtain⟨o,e⟩:=W.dom b hb;rw[fr b hz]at e;cases e
 have j:Hw K H' (A++[a]) (ws++[w]) (fw++fp):=by
  refine⟨?_,Qar.mpr ⟨W.nd,p,λx hx y hy z=>h x hx (z ▸ hy)⟩,by simp only[nP,pln.plns,Qam];exact⟨W.pl,n,trivial⟩⟩;rw[QaI];exact(W.same s).rep.snoc r
 have l:Same (Hid H fw) (Hid H' (fw++fp)):=λb o e=>by
  obtain⟨h1,h2⟩:=fY e;rw[bN λz=>?_]
  .exact s _ _ h2
  .rcases Qah.mp z with z|z
   .exact h1 z
   .rw[fr b z]at h2;cases h2
 obtain⟨F,hF⟩:=f.ex;exact⟨_,j,oP i f.same f.len hF l (fp:=[]) (by simp only[Rep];exact⟨trivial,iV⟩) Qaz λb hb=>by cases hb⟩
def Hw.less{ws':Ab D}(W:Hw K H (A++[a]) (ws++[w]) fw):∃f1,Hw K H A ws f1/\∀b∈f1,b∈fw:=by
 obtain⟨l,q,pl⟩:=W;obtain⟨t,v,h,f1,f,x,j,u,rfl,o,r,n⟩:=qB l;have l2:=n.length;have i:h=[]:=List.length_eq_zero_iff.mp (by simpa using l2);subst i;rw[QaI]at j;obtain⟨p,_⟩:=List.append_inj' j rfl;simp only[nP,pln.plns,Qam]at pl;subst p;exact⟨f1,⟨o,(Qar.mp q).1,pl.1⟩,λb hb=>Qan _ hb⟩
end
section
variable {X:Cx}{A:Ab Af}{e:Ag}{sts:Ab Stmt}{f:En->Aa D}{h:Af->En->Ab D->Res×Ab D}{pos pos':Pos}{i:Nat}{x:Str}
def Z2C(T:X.N.Nodup)(hi:X.N[i]?=some x)(O:Loc X.env.scope x)(he:QE X true [] e f)(h2:∀a,QSsg X (A++[a]) sts (h a))(hs:swapsWith e (some (.Name x pos')) pos.line X.env=pure false:=by rfl)(Y:X.fn x=true\/X.env.scope.names.lookup x=some .local:=by first|exact .inl rfl|exact .inr rfl|assumption) :
  QSsg X A (.Assign [.Name x pos'] e pos::sts) (T8 i f h) :=
 .mk (kG (u:=λD σ H=>∃a,Z3P X.K (A++[a]) (h a) D σ H) (qD T hi O he hs Y) λpins s σ H E I ⟨a,q⟩=>h2 a pins s σ H E I q) λE σ H ⟨P,env,ws,I,q⟩=>by
  obtain⟨F,hF⟩:=I.eok;unfold T8 at q;split at q
  .rename_i C ns ds h1;split at q
   .rename_i W;split at q
    .rename_i d ws' L;have t:=Z3x L (by simp);refine⟨env,F,_,hF,h1,λv H' fp s r c=>?_⟩;have y:=r;simp only[Rep]at y;obtain⟨a,dx,vs,a0,rfl,_⟩:=y;refine⟨a,P,_,_,I.made (i:=i) s r (c.2 rfl).1 (c.2 rfl).2 W,?_⟩;have j:=t a;cases Q:h a (env.set i (some (true,.fn a [] []))) (ws++[.obj C ns ds]) with
     |mk r1 w1 =>
      rw[Q]at j;cases r1 with
      |ret d1 =>
       simp only[wY,QaH,Qbk,Prod.mk.injEq,Rk]at j;obtain⟨rfl,rfl,hl⟩:=j;intro S n fp2 fw p R U B J;obtain⟨l,G⟩:∃l,w1=w1.take ws.length++[l]:=by
        have hd:(w1.drop ws.length).length=1:=by rw[List.length_drop];omega
        obtain⟨l,Z⟩:=List.length_eq_one_iff.mp hd;exact⟨l,by rw[<- Z,List.take_append_drop]⟩
       simp only at p;rw[G]at p;obtain⟨f1,M,sub⟩:=Hw.less (ws':=[]) p;have w:Same (Hid n fw) (Hid n f1):=λb o e=>by
        obtain⟨k1,k2⟩:=fY e;rw[bN λz=>k1 (sub b z)];exact k2
       exact q S n fp2 f1 M (R.trans w) (U.same w) B J
      |next _=>simp[wY]at j
      |brk _=>simp[wY]at j
      |cont _=>simp[wY]at j
      |bad=>simp[wY]at j
    .exact q.elim
   .exact q.elim
  .exact q.elim
end
def Zan{K:Frag}{C x dx:Af}{H0:Hp}{σ:L2.St}{i:Str}{f1:En->Aa D}{env:En}{n:D}{E:uL}{F:Nat->Ab Af}
  (o:H0 x=none) (j:H0 dx=none) (h:dx≠x) (ok:EnvOk K H0 σ env F) (v:σ[0]?=some (some (.ref x))) (H:f1 env=some n) (A:Cls K C) (B:NoAttr K C i)
  (q:∀H' fp',Same H0 H'->Rep K true H' (.obj C [i] [n]) (.ref x) fp'->(∀b∈fp',H0 b=none)->fp'.Nodup->E.nx σ H') :
  Z4d K (zE 0) (tD K true [] f1) i E σ (upd (upd H0 dx (.own x)) x (.ins C dx [])):=by
 have p:upd H0 dx (.own x) x=none:=by rw[bB (Ne.symm h)];exact o
 have s0:Same H0 (upd (upd H0 dx (.own x)) x (.ins C dx [])):=(cJ j).trans (cJ p);refine⟨env,F,n,ok.same s0,H,λy1 H1 g1 s1 r1 c1=>⟨.ref x,v,x,C,dx,[],rfl,s1 _ _ bJ,A,B,by show 0<1000;decide,?_⟩⟩;show E.nx σ (upd H1 x (.ins C dx [(i,y1)]));have S1:Same H0 (upd H1 x (.ins C dx [(i,y1)])):=λb u e=>by
  rw[bB (cG e o)];exact s1 _ _ (s0 _ _ e)
 have w:H1 x=some (.ins C dx []):=s1 _ _ bJ;have f:=c1.2 rfl;have l:x∉g1:=λz=>by have:=f.2 x z;rw[bJ]at this;cases this
 have t:upd (upd H0 dx (.own x)) x (.ins C dx []) dx=some (.own x):=by rw[bB h];exact bJ
 have y:=s1 _ _ t;have r:dx∉g1:=λz=>by have:=f.2 dx z;rw[t]at this;cases this
 have G:=Rep.keep _ _ _ (Kp.upd (o':=.ins C dx [(i,y1)]) w (by intro xs z;cases z) (by intro a b z;cases z) l) r1;refine q _ (x::dx::g1) S1 ?_ (λb hb=>?_) ?_
 .simp only[Rep];refine⟨x,dx,[y1],g1,rfl,rfl,bJ,by rw[bB h];exact y,rfl,?_⟩;have:=Reps.consR G (iV (K:=K) (m:=true));rw[QaP]at this;exact this
 .rcases Qad.mp hb with z|z
  .rw[z];exact o
  .rcases Qad.mp z with z|z
   .rw[z];exact j
   .exact s0.free (f.2 b z)
 .exact QaA.mpr ⟨λz=>(Qad.mp z).elim (λz=>h z.symm) l,QaA.mpr ⟨r,f.1⟩⟩
section
variable {X:Cx}{x:Str}{C:Af}{p pos:Pos}
def Z8Y(c:F4 X.prog X.w X.K X.mg X.base x C k 0 F')(i:Room (k+1) X.A)(h:Gl X x:=by rfl)(f:nDb x:=by decide) :
  QE X true [] (.Call (.Name x p) [] [] pos) (λ_=>F' []):=by
 obtain⟨l,fd,ps,M,G,j,a⟩:=c.ex;refine .mk (L2.pe_make0 M G i h j a .nil U5 f) λσ H Q ⟨env,F,d,ok,e,q⟩=>?_;exact λx dx hx hdx hne=>⟨x,dx,H,[],[],d,[],rfl,hx,hdx,hne,rfl,rfl,iV,e,λH' fp' s' r' fr nd=>⟨rfl,q _ H' fp' s' r' ⟨λb a=>.inl (fr b a),λ_=>⟨nd,fr⟩⟩⟩⟩
end
def zR(i:Nat)(g:En->Ab D->Res×Ab D):Ab D->En->Ab D->Res×Ab D
 |[],env,ws=>(.next env,ws)
 |d::r,env,ws=>match g (env.set i (some (false,d))) ws with
  |(.next e,w)=>zR i g r e w
  |(.cont e,w)=>zR i g r e w
  |(.brk e,w)=>(.next e,w)
  |(.ret d,w)=>(.ret d,w)
  |(.bad,w)=>(.bad,w)
def T6(rs:Ab Nat)(src:En->Aa (Ab D))(i:Nat)(g:En->Ab D->Res×Ab D):En->Ab D->Res×Ab D:=λenv ws=>match src env with
 |some ds=>zR i g ds (fz rs env) ws
 |none=>(.bad,ws)
theorem SInvG.lower{K:Frag}{P a H:Hp}{σ:L2.St}{env:En}{A:Ab Af}{ws:Ab D}(s:Same P a)(h:SInvG K a H σ env A ws):SInvG K P H σ env A ws:=by
 obtain⟨fw,W,b⟩:=h;exact⟨fw,W,b.lower s⟩
section
variable {X:Cx}{A:Ab Af}{iter:Ag}{body:Ab Stmt}{src:En->Aa (Ab D)}{g:En->Ab D->Res×Ab D}{pos px:Pos}{i:Nat}{x:Str}{rs:Ab Nat}
open Classical in
def Z6J(hc:X.calm=true)(hp:PassesOwn (model X.prog X.w) X.A X.env X.xe)(hN:X.N.Nodup)(hi':X.N[i]?=some x)(hx:Loc X.env.scope x)(hi:QI X (.Name x px) rs iter src)(a:QSsg X A body g)(hs:∀x,foldedSetIterable iter X.env x=pure x:=by intro _;rfl)
  (hf:X.fn x=true\/X.env.scope.names.lookup x=some .local:=by first|exact .inl rfl|exact .inr rfl|assumption) :
  QSg X A (.For (.Name x px) iter body [] pos) (T6 rs src i g):=.mk (Z0u hp hc hi (gH hN hi' hx hf) a hs) λE σ H ⟨P,env,ws,⟨fw,W,I⟩,q⟩=>by
 obtain⟨F,hF⟩:=I.ex;unfold T6 at q;split at q
 .rename_i ds h1;refine⟨env,nrm env F,ds,hF.nrm.ok.same hid_le,h1,λJ H1 fp s1 gv dm cd=>?_⟩;have cd':Cond (nrm env F) (Hid H fw) false rs fp:=⟨λb a=>(cd.1 b a).imp (λz=>hid_le.free z) id,λz=>by cases z⟩;have ap:=qU hF cd';have M:=W.same s1;have Y:∀b∈fp,b∉fw:=λb a hz=>by
   rcases cd.1 b a with z|⟨r,_,z⟩
   .obtain⟨o,e⟩:=W.dom b hz;rw[z]at e;cases e
   .obtain⟨sl,S⟩:=M6 z;rw[nR S]at z;obtain⟨o,e⟩:=hF.dom S b z;rw[nX hz]at e;cases e
  let O:Af->Prop:=λb=>∃j d,(fz rs env)[j]?=some (some (true,d))/\b∈nrm env F j
  let h:Hp:=λb=>if O b then none else Hid H1 fw b
  have t:EnvS X.K P (Hid H1 fw) σ (fz rs env) (nrm env F):=(hF.nrm.fz rs).grow (jC s1);have B:∀b,O b->(∀xs,Hid H1 fw b≠some (.tup xs))/\∀o u,Hid H1 fw b≠some (.frz o u):=λb ⟨j,d,e,a⟩=>by
   obtain⟨v,hv,r⟩:=t.ok j true d e;exact Rep.kind _ _ _ r b a
  have pn:∀{b:Af},¬O b->h b=Hid H1 fw b:=λhn=>if_neg hn;have po:∀{b:Af},O b->h b=none:=λf=>if_pos f;have sP1:Same h (Hid H1 fw):=λb o e=>by
   by_cases f:O b
   .rw[po f]at e;cases e
   .rw[pn f]at e;exact e
  have Q:Same P h:=λb o e=>by
   have f:¬O b:=λ⟨j,d,L,a⟩=>by
    have:=(t.own j d L).2.1 b a;rw[this]at e;cases e
   rw[pn f];exact jC s1 _ _ (I.same _ _ e)
  have U:∀b∈fp,¬O b:=λb a ⟨j,d,L,hb'⟩=>ap j d L b hb' a;have y:∀{b:Af}{o:HO},¬O b->b∉fw->H1 b=some o->h b=some o:=λf hw e=>by rw[pn f,bN hw];exact e
  have kp:∀{l:Hp}{f2:Ab Af},Same h (Hid l f2)->Kp fp H1 l:=λ{l f2} s2=>⟨λb a o e=>(fY (s2 _ _ (y (U b a) (Y b a) e))).2,
   λb xs e=>(fY (s2 _ _ (y (λf=>(B b f).1 xs (by rw[bN (M.hd.tup e)];exact e)) (M.hd.tup e) e))).2,
   λb o u e=>(fY (s2 _ _ (y (λf=>(B b f).2 o u (by rw[bN (M.hd.frz e)];exact e)) (M.hd.frz e) e))).2⟩
  refine⟨λn k σ' H'=>n<=ds.length/\k=ds.length-n/\∃env' ws',SInvG X.K h H' σ' env' A ws'/\F3 X.K P A E (zR i g (ds.drop n) env' ws').1 (zR i g (ds.drop n) env' ws').2,
   ⟨ds.length,QaY _,rfl,fz rs env,ws,⟨fw,M,sP1,by rw[yH];exact I.len,nrm env F,t.ok,λj d e=>?_⟩,by simpa using q⟩,?_⟩
  .obtain⟨a1,a2,a3,a4⟩:=t.own j d e;exact⟨a1,λb a=>po ⟨j,d,e,a⟩,a3,a4⟩
  .rintro n k σ' H' ⟨hn,hk,env',ws',⟨f2,W2,I'⟩,q'⟩;have gi:=gv H' (kp I'.same) n;by_cases G:n<ds.length
   .right;have hd:ds[n]?=some ds[n]:=Qaj G;obtain⟨go,hy⟩:=gi.1 _ hd;have R:ds.drop n=ds[n]::ds.drop (n+1):=Qbl G;rw[R]at q';refine⟨go,λσ2 l=>∃env2 ws2,SInvG X.K h l σ2 env2 A ws2/\F3 X.K P A E (zR i g (ds.drop (n+1)) env2 ws2).1 (zR i g (ds.drop (n+1)) env2 ws2).2,λσ2 l ⟨env2,ws2,C,q2⟩=>⟨ds.length-(n+1),by omega,G,rfl,env2,ws2,C,q2⟩,λv l y2=>?_⟩;obtain⟨Z,f3,r2,p⟩:=hy v l y2;have W3:=W2.same Z;have C:=I'.grow (jC (fw:=f2) Z);obtain⟨F2,a0⟩:=C.ex;have T:∀b∈f3,∃o,h b=some o:=λb a=>by
     obtain⟨o,e⟩:=dm b (p b a);exact⟨o,y (U b (p b a)) (Y b (p b a)) e⟩
    have r3:Rep X.K false (Hid l f2) ds[n] v f3:=Z1u W3.hd r2 λb a hz=>by
     obtain⟨o,e⟩:=T b a;have:=C.same _ _ e;rw[nX hz]at this;cases this
    have I3:SInvG X.K h l (σ'.set i (some v)) (env'.set i (some (false,ds[n]))) A ws':=⟨f2,W3,Q4 i C.same C.len a0 (Same.refl _) r3 λj d' L b a z=>by
     have h5:=(a0.own j d' L).2.1 b a;obtain⟨o,e⟩:=T b z;rw[h5]at e;cases e⟩
    refine⟨h,_,ws',I3,?_⟩;unfold zR at q';cases hg:g (env'.set i (some (false,ds[n]))) ws' with
    |mk r w1 =>
     rw[hg]at q';cases r with
     |next e2=>exact λσ4 H4 I4=>⟨e2,w1,I4,q'⟩
     |cont e2=>exact λσ4 H4 I4=>⟨e2,w1,I4,q'⟩
     |brk e2=>exact λσ4 H4 I4=>q' σ4 H4 (I4.lower Q)
     |ret d=>exact λv H4 fp4 fw4 W4 s4 r4 n4 nd4=>q' v H4 fp4 fw4 W4 (Q.trans s4) r4 (λb a=>Q.free (n4 b a)) nd4
     |bad=>exact q'.elim
   .left;have hn':n=ds.length:=by omega
    rw[hn',List.drop_length]at q';exact⟨gi.2 (by omega),q' σ' H' (SInvG.lower Q ⟨f2,W2,I'⟩)⟩
 .exact q.elim
end
structure Z5W(P:Program)(w:World)(K:Frag)(mg:Str->Option Value)(base:Heap)(CD:Addr)(m:Str)(k n:Nat)(g:Addr->D->List D->Option (D×D)):Prop where
 ex:∃fA fd ps,gT P w K mg base (CXe P w) k fA fd ps (Z6f K n g)/\ZaH K CD m fA/\Binds K fd ps []/\Cls K CD
open Classical in
def xA(a CD:Af)(m:Str)(Cs:Ab Af)(il i j kk:Nat)(g:Af->D->Ab D->Aa (D×D))(fs:En->Aa (Ab D)):En->Ab D->Res×Ab D:=λenv ws=>match fs env,ws with
 | some xs,[.obj C ns ds]=>if C=CD /\ m ∉ ns /\ (∃ o,env[il]? = some (some (o,.fn a [] []))) then
   (match g a (.obj C ns ds) xs with
    |some (.exc C',w')=>if C'∈Cs/\j≠kk/\j<env.length/\kk<env.length then(.next ((env.set j (some (true,.exc C'))).set kk none),[w']) else(.bad,ws)
    |some (d,w')=>(.next (env.set i (some (true,d))),[w'])
    |none=>(.bad,ws)) else(.bad,ws)
 |_,_=>(.bad,ws)
theorem P9:∀{ns:Ab Str}{vs:Ab V},m∉ns->(ns.zip vs).lookup m=none
 |[],_,_=>rfl
 |_::_,[],_=>rfl
 |n::ns,v::vs,h=>by
  have h1:(m==n)=false:=beq_eq_false_iff_ne.mpr λz=>h (z ▸ Qai);rw[List.zip_cons_cons,QaF,h1];exact P9 λz=>h (Qaa _ z)
section
variable {X:Cx}{pins:Ab (Af×Obj)}{σ:L2.St}{H:Hp}{s:Ac}{m1:Bool}{rs1:Ab Nat}{e:Ag}{es:Ab Ag}{fs:En->Aa (Ab D)}
def Z6I
  (c:Z5W X.prog X.w X.K X.mg X.base CD m k n g) (hr:Room k X.A) (hna:NArgs n fs) (ha:QA X m1 rs1 (e::es) fs) (O:∀C∈Cs,ExC X.base C/\PySem.W.exmOne X.K (.ref C) (.ref B)=some true) (hgC:Gl X cx) (hmC:X.mg cx=some (.ref B)) (hc:X.calm=true) (hxe:X.xe=λ_ _=>False)
  (hst:X.stack=X.env::X.outer) (hf:X.env.frame=some X.env.locals) (hN:X.N.Nodup) (hl:X.N[il]?=some dv) (hvl:Vis X.env.scope dv) (hi:X.N[i]?=some xv) (hj:X.N[j]?=some yv) (hk:X.N[kk]?=some en)
  (li:X.env.scope.names.lookup xv=some .local) (lj:X.env.scope.names.lookup yv=some .local) (lk:X.env.scope.names.lookup en=some .local) (hjk:j≠kk)
  (hdv:nDb dv:=by decide) (hdv2:(dv==("__classdict__" : Str))=false:=by decide) (hdc:nDb cx:=by decide) (hde:nDb en:=by decide) (hce:(en==("__classdict__" : Str))=false:=by decide)
  (he:sEa e es X.env:=by rfl) (hpl:bTa p3 es X.env:=by rfl)
  (hs1:swapsWith (.Call (.Attribute (.Name dv p2) m ap) (e::es) [] p3) (some (.Name xv p1)) p4.line X.env=pure false:=by rfl) (hs2:swapsWith (.Name en p7) (some (.Name yv p6)) p8.line X.env=pure false:=by rfl)
  (ht:eval (.Call (.Attribute (.Name dv p2) m ap) (e :: es) [] p3) X.env=(do
   let ov <- eval (.Name dv p2) X.env
   standAt ap.atName
   let (f,first) <- holding [ov] (getMethod ov m pl)
   callWith p3 f first (backTo p3 (starEach (e::es) X.env)) (backToKw p3 (keywordEach [] X.env))):=by rfl) :
  QSg X [a] (.Try [.Assign [.Name xv p1] (.Call (.Attribute (.Name dv p2) m ap) (e::es) [] p3) p4] [.ExceptHandler (some (.Name cx p5)) (some en) [.Assign [.Name yv p6] (.Name en p7) p8] p9] [] [] p10) (xA a CD m Cs il i j kk g fs):=by
 classical
 intro pins s σ H D I ⟨P,env,ws,⟨fw,W,IS⟩,q⟩;obtain⟨fA,fd,ps,G,hm,h,hcl⟩:=c.ex;obtain⟨F,hF⟩:=IS.ex;unfold xA at q;split at q
 .rename_i xs C ns ds h1;split at q
  .rename_i L;obtain⟨rfl,hmn,o0,he0⟩:=L;obtain⟨v0,hv1,a1⟩:=hF.ok il o0 _ he0;simp only[Rep]at a1;obtain⟨rfl,_⟩:=a1;obtain⟨ro,ndw,plw⟩:=hw_one.mp W;have a0:=ro;simp only[Rep]at a0;obtain⟨a',dx,vsf,fp',ea,_,hA,_,hln,_⟩:=a0;cases ea;refine wpAny_Try_except (wpAny_execs_cons (wpAny_Assign_Name ?_ hs1));refine PySem.W.methodCall_KW (pl:=pl) (Rc ((show PE X (.Name dv p2) (zE il) from kH hl hvl hdv hdv2) pins s σ H (λx H1=>x=.ref a/\H1=H) I ⟨.ref a,hv1,rfl,rfl⟩) (λu s0 ⟨x0,H0,I0,r0,ex,eh⟩=>?_) λ_ _ z=>(by rw[hxe]at z;exact z.elim)) ht
   subst ex eh;obtain rfl:u=Value.ref a:=r0;refine Z0R I0 hA hcl hm (P9 hmn) ?_;refine PySem.W.callWith_K (first:=[.ref a]) (h₀:=X.base) I.ok.mod.kin hm.kp (Rc (ha p3 pins s0 σ H0 (λvs H1=>Same H0 H1/\∃fp,Reps X.K m1 H1 xs vs fp/\∀b∈fp,b∉fw) I0 ⟨env,nrm env F,xs,hF.nrm.ok.same hid_le,h1,λvs H1 fp sm r cd=>⟨sm,fp,r,λb h hz=>?_⟩⟩) (λus s1 ⟨vs,H1,I1,r,sm,fp,rr,apf⟩=>⟨I1.kIn,?_⟩) λ_ _ z=>(by rw[hxe]at z;exact z.elim)) he hpl
   .rcases cd.1 b h with z|⟨rr,_,z⟩
    .obtain⟨o,e⟩:=W.dom b hz;rw[z]at e;cases e
    .obtain⟨sl,T⟩:=M6 z;rw[nR T]at z;obtain⟨o,e⟩:=hF.dom T b z;rw[nX hz]at e;cases e
   have R:=W.same sm;have rp:Reps X.K false (Hid H1 fw) xs vs fp:=Reps.keep _ _ _ ⟨λb h o e=>by rw[bN (apf b h)];exact e,λb xs e=>by rw[bN (R.hd.tup e)];exact e,λb o u e=>by rw[bN (R.hd.frz e)];exact e⟩ (Reps.weak _ _ _ rr);have a2:xs.length=n:=hna.len env xs h1;have y:SInv X.K P (Hid H1 fw) σ env:=IS.grow (jC sm);have r2:Vals (.ref a::vs) (.ref a::us):=.cons rfl r;have Y:∀(Q:VK) (S:XK),Z6f X.K n g (.ref a::vs) H1 Q S->∀{Z:Ad->Ac->Prop}{EE:Ad->Ac->Prop},(∀u s2,EP X pins σ Q u s2->Z u s2)->(∀e s2,CXe X.prog X.w X.stack H1 s1 S e s2->EE e s2)->wpAny (model X.prog X.w) X.A (call (.ref fA) (.ref a::us)) Z EE s1:=by
    intro Q S U Z EE z1 z2;have hl:(Value.ref a::us++[]).length=ps.length:=by rw[QaP,<- r2.length];exact G.len _ _ _ _ U
    refine wpAny_call (codeAny_mono (G.run X.A X.stack s1 H1 ⟨.ref a::us,[]⟩ (.ref a::us++[]) (.ref a::vs) Q S hr I1.env0 (h s1 (.ref a::us) I1.kIn hl) (by rw[QaP];exact r2) U) λr s' hq=>?_);cases r with
    |error e=>exact z2 e s' hq
    |ok fl =>
     cases fl with
     |ret u=>exact z1 u s' (I1.after hq)
     |next=>exact False.elim hq
     |brk=>exact False.elim hq
     |cont=>exact False.elim hq
   cases t:g a (.obj C ns ds) xs with
   |none=>simp only[t]at q;exact q.elim
   |some dw =>
    obtain⟨d,w'⟩:=dw;by_cases hx:∃p,d=.exc p
    .obtain⟨p,rfl⟩:=hx;simp only[t]at q;split at q
     .rename_i hcc;obtain⟨hCs,_,hjl,hkl⟩:=hcc;obtain⟨OC,hex⟩:=O p hCs;refine Y (λ_ _=>False) (λcls _ H2=>cls=.ref p/\∃l,Hw X.K H2 [a] [w'] l/\Same (Hid H1 fw) (Hid H2 l)) ⟨a,vs,_,xs,fw,fp,.exc p,w',rfl,a2,R,rp,t,λH2 l W2 s2=>⟨rfl,l,W2,s2⟩⟩ (λu s2 ⟨_,_,_,_,z⟩=>z.elim) λe s2 cx=>?_;refine Z9A I1 hst hf cx λae C2 H2 s3 ea hHa hE I3 tr=>?_;obtain⟨eC,l,W2,sm2⟩:=hE;cases eC;subst ea;obtain⟨⟨oe,vs',g1,g2,g3⟩,_⟩:=(show ObjOk X.prog X.w _ s3.heap ae (.ext (nW ae (.ref p))) from I3.hok ae _ bJ)
      have LT:PySem.W.Looks (model X.prog X.w) s3.heap (typeOf (.ref ae)) (.ref p):=by
       rw[<- g2];exact(PySem.W.Looks.ld g1).andThen .now
      have LM:=PySem.W.exm_one (M:=model X.prog X.w) I3.kIn LT hex;obtain⟨hh,gg,dr,tt,oo⟩:=s3;refine wpAny_handleBy_cons (codeAny_handlers_test ?_) (by intro z;cases z);refine Calls.Name_function_global I3.ok.kind hgC (Calls.loadGlobal_global (by rw[I3.ok.glob];exact I3.mod.glob.keeps I3.bk) hmC ?_) hdc;refine LM.here ?_;refine codeAny_handlers_suite_as ?_;obtain⟨oe2,vs2,T2,oT,ts,w1,w2,w3,w4,w5,w6,w7,w8⟩:=tr;have hsz:3<ts.size:=(Array.getElem?_eq_some_iff.mp w7).1;refine wpAny_setFlight_none w1 w2 w3 w5 w6 hsz ?_;have I4:=I3.kept (h':=hh.update T2 (Obj.mapFields (·.setIfInBounds 3 .none))) (t':=tt) λb u e=>by
       by_cases h:b=T2
       .subst h;rw[w5]at e;cases e;rw[Heap.get?_update_self _ w5 (Obj.isFreed_of_fields (Obj.data_mapFields w6 _)),Z2U w6 w7]
       .rw[Heap.get?_update_other _ _ (Ne.symm h)];exact e
      refine lU I4 hN hk (.inl lk) (v:=.ref ae) rfl (λs5 I5=>?_) (.inr lk);have hkσ:kk<σ.length:=by rw[I.len];exact(Qac.mp hk).1
      obtain⟨mm,hn5,hl5⟩:=id I5.loc;obtain⟨u,ru,lu⟩:=hl5 kk en (.ref ae) hk (Qaw hkσ) (.inl lk);have hv:mm en=some u:=by
       rcases lu with⟨_,e⟩|⟨z,_⟩
       .exact e
       .have E:X.env.scope.names.lookup en=some .cell\/X.env.scope.names.lookup en=some .free:=z;rw[lk]at E;rcases E with E|E<;>cases E
      refine wpAny_execs_cons (wpAny_Assign_Name (wpAny_Name (wpAny_loadName_local I5.ok.kind lk hn5 hv ?_) hde) hs2);refine lU I5 hN hj (.inl lj) ru (λs6 I6=>wpAny_execs_nil ?_) (.inr lj);refine Z2Q I6 hN hk lk λs7 I7=>⟨_,_,I7,q _ _ ?_⟩;have rx:Rep X.K true (upd H2 ae (.ext (nW ae (.ref p)))) (.exc p) (.ref ae) [ae]:=by simp only[Rep];exact⟨ae,rfl,rfl,bJ⟩
      have J0:SInvG X.K P H2 σ env [a] [w']:=⟨l,W2,y.grow sm2⟩;obtain⟨fw3,W3,J1⟩:=(J0.push (cJ hHa) rx (by simp) (λb h=>by rw[Qay.mp h];exact hHa)).move j;have e0:((σ.set kk (some (V.ref ae))).set j (some (V.ref ae))).set kk none=(σ.set j (some (V.ref ae))).set kk none:=by
       rw[List.set_comm _ _ (Ne.symm hjk),List.set_set]
      rw[e0];exact⟨fw3,W3,(J1.drop kk).put kk none (by rw[Qaw (by rw[List.length_set];exact hkl)])⟩
     .exact q.elim
    .have q':F3 X.K P [a] D (.next (env.set i (some (true,d)))) [w']:=by
      simp only[t]at q;cases d<;>first|exact q|exact absurd ⟨_,rfl⟩ hx
     refine Y (λv H2=>SInvG X.K (Hid H1 fw) H2 [some v] [some (true,d)] [a] [w']) (λ_ _ _=>False) ⟨a,vs,_,xs,fw,fp,d,w',rfl,a2,R,rp,t,?_⟩ (λu s2 ⟨v,H2,I2,rv,J⟩=>?_) λe s2 cx=>?_
     .cases d<;>first|exact λv H2 J=>J|exact absurd ⟨_,rfl⟩ hx
     .refine lU I2 hN hi (.inl li) rv (λs3 I3=>wpAny_execs_nil (wpAny_execs_nil ⟨_,H2,I3,q' _ _ ?_⟩)) (.inr li);obtain⟨f',W',J'⟩:=J;obtain⟨fv,rv',ndv,frv⟩:=lY (σ:=[]) (env:=[]) J';obtain⟨F1,hF1⟩:=y.ex;exact⟨f',W',A9 i (oQ y.same y.len hF1 J'.same rv' ndv frv)⟩
     .obtain⟨_,_,_,_,_,_,_,_,_,z⟩:=cx;exact z.elim
  .exact q.elim
 .exact q.elim
end
section
variable {X:Cx}{E:XK}{e:Ag}{f fx:En->Aa D}{pos:Pos}
def Z8e:En->Res:=λ_=>.ret .non
def Z6N:QS X (.Return none pos) Z8e:=.mk Z72 λD σ H ⟨P,env,I,q⟩=>q .non H [] I.same mQ (λb hb=>(by cases hb)) Qaz
def rC(f:En->Aa D):En->Res:=λenv=>match f env with
 |some _=>.next env
 |none=>.bad
def Z6O(he:QE X m rs e f)(hs:swapsWith e none pos.line X.env=pure false:=by rfl):QS X (.Expr e pos) (rC f):=.mk (rJ he hs) λD σ H ⟨P,env,I,q⟩=>by
 obtain⟨F,hF⟩:=I.ex;unfold rC at q;split at q
 .rename_i d h1;exact⟨env,F,d,hF.ok,h1,λv H' fp s r c=>q σ H' (I.grow s)⟩
 .exact q.elim
def xD(he:QE X true [] e (fNX fx))(a:PE X e (tXE X.K E pre fx))(hs:swapsWith e none pos.line X.env=pure false:=by rfl):QSx X E (.Expr e pos) (rOr pre fx (rC (fNX fx))) :=
 jG (Z6O he hs) (rJ a hs) λD σ H Q ⟨env,F,C,ok,h,hp,q⟩=>⟨env,F,C,ok,h,hp,q⟩
end
def V7:Ab D->Aa (Ab Key)
 |[]=>some []
 |d::r=>match keyOf d,V7 r with
  |some k,some ks=>some (k::ks)
  |_,_=>none
theorem yB{K:Frag}{m:Bool}{H:Hp}:∀{a:Ab D}{vs:Ab V}{fp:Ab Af}{ks:Ab Key},V7 a=some ks->Reps K m H a vs fp->vs=ks.map kV
 |[],vs,fp,ks,h,r=>by
  cases h;simp only[Reps]at r;rw[r.1];rfl
 |d::a,vs,fp,ks,h,r=>by
  unfold V7 at h;split at h
  .rename_i k k2 b i;cases h;simp only[Reps]at r;obtain⟨v,us,f1,l,rfl,rfl,j,f⟩:=r;rw[yB i f,Z2X b j];rfl
  .cases h
end PD
namespace L2
open PySem PySem.Spec PyProof.Rows
open Sem (wp)
section
variable {prog:Aj}{w:Ak}{A:Ai}{E:Ad->Ac->Prop}{s:Ac}{it t:Af}{i:Nat}{its:Ae Ad}
def wK{h h':Ah}(x:IsTupIter h it t i)(k:∀o,h.get? it=some o->h'.get? it=some o):IsTupIter h' it t i:=let ⟨o,e,r⟩:=x;⟨o,k o e,r⟩
def Z4Q{x:Ad}{Q:Ad->Ac->Prop}(a:IsTupIter s.heap it t i)(p:IsTup s.heap t its)(o:its[i]?=some x)(n:∀h',IsTupIter h' it t (i+1)->Heap.SameBut it s.heap h'->Q x { s with heap:=h' }):wpAny (model prog w) A (Builtin.SmallTypes.nextOf (.ref it)) Q E s:=by
 obtain⟨q,f,l,b⟩:=id a;obtain⟨r,h,_,m,j⟩:=p;unfold Builtin.SmallTypes.nextOf;refine Ra (wpAny_callSpecial?_slot (name:=Str.ofString "__next__") a.typeIs slot_tupleiter_next (Rg slot_tupleiter_next a.typeIs entry_tupleiter_next (show wpAny _ _ (field (.ref it) 0 >>= _) _ _ s from Ra (wpAny_field f b (x:=.ref t) rfl ?_)) (args_tupleiter_next _)))
 refine show wpAny _ _ (if (Value.ref t==Value.none)=true then _ else _) _ _ s from ?_
 rw[if_neg (show ¬((Value.ref t==Value.none)=true) from Qbg)]
 refine show wpAny _ _ (field (.ref it) 1 >>= _) _ _ s from Ra (wpAny_field f b (x:=.int i 0) rfl (show wpAny _ _ (seqItems? (.ref t) >>= _) _ _ s from Ra (wpAny_seqItems h j ?_)))
 simp only[QaJ,o];exact Ra (wpAny_setField f b (by simp) (Rb ⟨x,rfl,Rb (n _ ⟨_,Heap.get?_update_self _ f (Obj.isFreed_of_fields (Obj.data_mapFields b _)),(Obj.cls_mapFields ..).trans l,by rw[Obj.data_mapFields b];simp[rawInt]⟩ (Heap.SameBut.update ..))⟩))
def Z7i{Q:Ad->Ac->Prop}(j:A.handled=none)(b:IsTupIter s.heap it t i)(r:IsTup s.heap t its)(q:its[i]?=none)(p:∀h' e,Heap.ExtBut it s.heap h'->(∃o,h'.get? e=some o/\o.cls=.type "StopIteration")->E (.ref e) { s with heap:=h' }):wpAny (model prog w) A (Builtin.SmallTypes.nextOf (.ref it)) Q E s:=by
 obtain⟨u,f,y,h⟩:=id b;obtain⟨v,l,_,m,n⟩:=r;unfold Builtin.SmallTypes.nextOf;refine Ra (wpAny_callSpecial?_slot (name:=Str.ofString "__next__") b.typeIs slot_tupleiter_next (Rg slot_tupleiter_next b.typeIs entry_tupleiter_next (show wpAny _ _ (field (.ref it) 0 >>= _) _ _ s from Ra (wpAny_field f h (x:=.ref t) rfl ?_)) (args_tupleiter_next _)))
 refine show wpAny _ _ (if (Value.ref t==Value.none)=true then _ else _) _ _ s from ?_
 rw[if_neg (show ¬((Value.ref t==Value.none)=true) from Qbg)]
 refine show wpAny _ _ (field (.ref it) 1 >>= _) _ _ s from Ra (wpAny_field f h (x:=.int i 0) rfl (show wpAny _ _ (seqItems? (.ref t) >>= _) _ _ s from Ra (wpAny_seqItems l n ?_)))
 simp only[QaJ,q];refine Ra (wpAny_rule (Ra (wpAny_setField f h (by simp) (show wpAny _ _ (newExc (.type "StopIteration") [] >>= _) _ _ _ from Ra ?_))))
 simp only[newExc,newTuple];refine Ra (Re (Ra (m:=firstArgMember _ _) (wpAny_of_eq (a:=Value.none) (by first|rfl|(simp only[firstArgMember];rfl)) (Re ?_ (by size_fits)))) (by size_fits))
 simp only[raiseNew];refine Ra (wpAny_handled ?_)
 first|rw[show A.in1.handled=none from j]|rw[j]
 exact Ra (Rb (wpAny_throw (p _ _ (((Heap.SameBut.update ..).extBut.push _).push _) ⟨_,Qax _ rfl,rfl⟩)))
def Z28{z TI TO i1 i2 l1 l2:Af}{k1 k2:Nat}{xs ys:Ae Ad}{x y a b:Ad}{Q:Ad->Ac->Prop}(D:ZipApart z TI TO i1 i2 l1 l2)(f:IsZip s.heap z TI TO .none)(q:IsPair s.heap TI (.ref i1) (.ref i2))(j:IsPair s.heap TO a b)
  (h1:s.heap.IsListIter i1 l1 k1) (h2:IsTupIter s.heap i2 l2 k2) (l:s.heap.IsList l1 xs) (u:IsTup s.heap l2 ys) (F:xs[k1]?=some x) (G:ys[k2]?=some y)
  (I:∀h',IsZip h' z TI TO (rawInt s.heap.objs.size)->IsPair h' TO x y->h'.IsListIter i1 l1 (k1+1)->IsTupIter h' i2 l2 (k2+1)->IsPair h' s.heap.objs.size x y->h'.objs.size=s.heap.objs.size+1->(∀c o,c≠z->c≠TO->c≠i1->c≠i2->s.heap.get? c=some o->h'.get? c=some o)->Q (.ref s.heap.objs.size) { s with heap:=h' }) :
  wpAny (model prog w) A (Builtin.«zip.__next__» ⟨[.ref z],[]⟩) (λfin s'=>∃v,fin=.done (.ret v)/\Q v s') E s:=by
 refine show wpAny _ _ (field (.ref z) 2 >>= _) _ _ _ from Ra (wpAny_field f rfl (x:=.bool false) rfl (show wpAny _ _ (field (.ref z) 3 >>= _) _ _ _ from Ra (wpAny_field f rfl (x:=.ref TI) rfl (Ra (wpAny_seqItems q rfl (show wpAny _ _ (Builtin.SmallTypes.ownedTupleIsFree (.ref z) >>= _) _ _ _ from Ra ?_))))))
 unfold Builtin.SmallTypes.ownedTupleIsFree;refine Ra (wpAny_field f rfl (x:=.none) rfl (Rb ?_));simp only[Rl];refine Ra (wpAny_rule (Ra (wpAny_field f rfl (x:=.ref TO) rfl (Ra (wpAny_setField_rec f (by simp) λg1 (z1:IsZip g1 z TI TO .ellipsis) s1=>Ra ?_)))));simp only[List.zipIdx_cons,List.zipIdx_nil,Qa6,List.forIn_nil];refine Ra (Ra (wpAny_onRaise (show wpAny _ _ (Builtin.SmallTypes.nextOf (.ref i1) >>= _) _ _ _ from Ra (wpAny_nextOf_list_item (h1.extBut s1.extBut D.i1z) (l.extBut s1.extBut D.l1z) F λg2 j1 s2=>Rb ?_))))
 have t2:IsPair g2 TO a b:=s2.extBut _ _ D.TOi1 (s1.extBut _ _ D.TOz j);refine Ra (wpAny_seqItems t2 rfl (Ra (wpAny_updateSeq_pair t2 λg3 (t3:IsPair g3 TO x b) s3=>Ra (wpAny_letGo (Rb ?_)))));refine Ra (Ra (wpAny_onRaise (show wpAny _ _ (Builtin.SmallTypes.nextOf (.ref i2) >>= _) _ _ _ from Ra (Z4Q (((h2.extBut s1.extBut D.i2z).extBut s2.extBut D.i12.symm).extBut s3.extBut D.TOi2.symm) (((u.extBut s1.extBut D.l2z).extBut s2.extBut D.l2i1).extBut s3.extBut D.l2TO) G λg4 j2 s4=>Rb ?_))))
 have t:IsPair g4 TO x b:=s4.extBut _ _ D.TOi2 t3;refine Ra (wpAny_seqItems t rfl (Ra (wpAny_updateSeq_pair t λg5 (t5:IsPair g5 TO x y) s5=>Ra (wpAny_letGo (Rb (Rb (Ra (wpAny_seqItems t5 rfl (Ra (wpAny_newTuple ?_))))))))));have sz:g5.objs.size=s.heap.objs.size:=s5.1.trans (s4.1.trans (s3.1.trans (s2.1.trans s1.1)));have p:IsZip g5 z TI TO .ellipsis:=s5.extBut _ _ D.TOz.symm (s4.extBut _ _ D.i2z.symm (s3.extBut _ _ D.TOz.symm (s2.extBut _ _ D.i1z.symm z1)));have k5:∀c o,c≠z->c≠TO->c≠i1->c≠i2->s.heap.get? c=some o->g5.get? c=some o:=λc o c1 c2 c3 c4 e=>s5.extBut _ _ c2 (s4.extBut _ _ c4 (s3.extBut _ _ c2 (s2.extBut _ _ c3 (s1.extBut _ _ c1 e))));have C:g5.IsListIter i1 l1 (k1+1):=((j1.extBut s3.extBut D.TOi1.symm).extBut s4.extBut D.i12).extBut s5.extBut D.TOi1.symm;have B:IsTupIter g5 i2 l2 (k2+1):=j2.extBut s5.extBut D.TOi2.symm;have i:z<g5.objs.size:=Qal p;refine show wpAny _ _ (Builtin.SmallTypes.ownedTupleHandOut (.ref z) (.ref g5.objs.size) >>= _) _ _ _ from Ra ?_
 unfold Builtin.SmallTypes.ownedTupleHandOut;have H:IsZip (g5.push { cls:=.type "tuple",data:=.seq #[x,y] }) z TI TO .ellipsis:=Qag _ p;refine Ra (wpAny_setField_rec H (by simp) λg7 (z7:IsZip g7 z TI TO (rawInt g5.objs.size)) s7=>wpAny_setField_rec z7 (by simp) λg8 (z8:IsZip g8 z TI TO (rawInt g5.objs.size)) s8=>?_);have h:∀c o,c≠z->g5.get? c=some o->g8.get? c=some o:=λc o c1 e=>s8.extBut _ _ c1 (s7.extBut _ _ c1 (Qag _ e));have n:IsPair g8 g5.objs.size x y:=s8.extBut _ _ (Nat.ne_of_gt i) (s7.extBut _ _ (Nat.ne_of_gt i) (Qax _ rfl));have r:g8.objs.size=g5.objs.size+1:=s8.1.trans (s7.1.trans (Qbj ..));rw[sz]at z8 n r;refine Rb ⟨_,rfl,?_⟩;show Q (.ref g5.objs.size) _;rw[sz];exact I g8 z8 (h _ _ D.TOz t5) (C.at λo e=>h _ o D.i1z e) (wK B λo e=>h _ o D.i2z e) n r λc o c1 c2 c3 c4 e=>h c o c1 (k5 c o c1 c2 c3 c4 e)
def Z26{z TI TO i1 i2 l1 l2:Af}{k1 k2:Nat}{xs ys:Ae Ad}{a b:Ad}{Q:Fin->Ac->Prop}(y:A.handled=none)(D:ZipApart z TI TO i1 i2 l1 l2)(f:IsZip s.heap z TI TO .none)(u:IsPair s.heap TI (.ref i1) (.ref i2))(r:IsPair s.heap TO a b)
  (h1:s.heap.IsListIter i1 l1 k1) (h2:IsTupIter s.heap i2 l2 k2) (i:s.heap.IsList l1 xs) (B:IsTup s.heap l2 ys) (l:xs[k1]?=none\/ys[k2]?=none)
  (t:∀h' e,(∀c o,c≠z->c≠TO->c≠i1->c≠i2->s.heap.get? c=some o->h'.get? c=some o)->(∃o,h'.get? e=some o/\o.cls=.type "StopIteration")->E (.ref e) { s with heap:=h' }) :
  wpAny (model prog w) A (Builtin.«zip.__next__» ⟨[.ref z],[]⟩) Q E s:=by
 refine show wpAny _ _ (field (.ref z) 2 >>= _) _ _ _ from Ra (wpAny_field f rfl (x:=.bool false) rfl (show wpAny _ _ (field (.ref z) 3 >>= _) _ _ _ from Ra (wpAny_field f rfl (x:=.ref TI) rfl (Ra (wpAny_seqItems u rfl (show wpAny _ _ (Builtin.SmallTypes.ownedTupleIsFree (.ref z) >>= _) _ _ _ from Ra ?_))))))
 unfold Builtin.SmallTypes.ownedTupleIsFree;refine Ra (wpAny_field f rfl (x:=.none) rfl (Rb ?_));simp only[Rl];refine Ra (wpAny_rule (Ra (wpAny_field f rfl (x:=.ref TO) rfl (Ra (wpAny_setField_rec f (by simp) λg1 (z1:IsZip g1 z TI TO .ellipsis) s1=>Ra ?_)))));simp only[List.zipIdx_cons,List.zipIdx_nil,Qa6,List.forIn_nil];refine Ra (Ra (wpAny_onRaise (show wpAny _ _ (Builtin.SmallTypes.nextOf (.ref i1) >>= _) _ _ _ from Ra ?_)))
 cases j:xs[k1]? with
 |none =>
  refine wpAny_nextOf_list_end y (h1.extBut s1.extBut D.i1z) (i.extBut s1.extBut D.l1z) j λg2 e s2 ⟨oe,ho,hc⟩=>?_;have v:IsZip g2 z TI TO .ellipsis:=s2 _ _ D.i1z.symm z1;have n:e≠z:=λq=>by subst q;rw[v]at ho;cases ho;simp at hc
  exact wpAny_setField_rec v (by simp) λg3 _ s3=>t g3 e (λc o c1 _ c3 _ q=>s3.extBut _ _ c1 (s2 _ _ c3 (s1.extBut _ _ c1 q))) ⟨oe,s3.extBut _ _ n ho,hc⟩
 |some x =>
  have C:ys[k2]?=none:=by
   rcases l with h|h
   .rw[j]at h;cases h
   .exact h
  refine wpAny_nextOf_list_item (h1.extBut s1.extBut D.i1z) (i.extBut s1.extBut D.l1z) j λg2 j1 s2=>Rb ?_;have t2:IsPair g2 TO a b:=s2.extBut _ _ D.TOi1 (s1.extBut _ _ D.TOz r);refine Ra (wpAny_seqItems t2 rfl (Ra (wpAny_updateSeq_pair t2 λg3 t3 s3=>Ra (wpAny_letGo (Rb ?_)))));refine Ra (Ra (wpAny_onRaise (show wpAny _ _ (Builtin.SmallTypes.nextOf (.ref i2) >>= _) _ _ _ from Ra ?_)))
  refine Z7i y (((h2.extBut s1.extBut D.i2z).extBut s2.extBut D.i12.symm).extBut s3.extBut D.TOi2.symm) (((B.extBut s1.extBut D.l2z).extBut s2.extBut D.l2i1).extBut s3.extBut D.l2TO) C λg4 e s4 ⟨oe,ho,hc⟩=>?_;have p:IsZip g4 z TI TO .ellipsis:=s4 _ _ D.i2z.symm (s3.extBut _ _ D.TOz.symm (s2.extBut _ _ D.i1z.symm z1));have n:e≠z:=λq=>by subst q;rw[p]at ho;cases ho;simp at hc
  exact wpAny_setField_rec p (by simp) λg5 _ s5=>t g5 e (λc o c1 c2 c3 c4 q=>s5.extBut _ _ c1 (s4 _ _ c4 (s3.extBut _ _ c2 (s2.extBut _ _ c3 (s1.extBut _ _ c1 q))))) ⟨oe,s5.extBut _ _ n ho,hc⟩
def Z27{z TI TO i1 i2 l1 l2:Af}{k1 k2:Nat}{xs ys:Ae Ad}{x y a b:Ad}{Q:Aa Ad->Ac->Prop}(D:ZipApart z TI TO i1 i2 l1 l2)(i:IsZip s.heap z TI TO .none)(l:IsPair s.heap TI (.ref i1) (.ref i2))(f:IsPair s.heap TO a b)
  (h1:s.heap.IsListIter i1 l1 k1) (h2:IsTupIter s.heap i2 l2 k2) (h:s.heap.IsList l1 xs) (n:IsTup s.heap l2 ys) (r:xs[k1]?=some x) (p:ys[k2]?=some y)
  (q:∀h',IsZip h' z TI TO (rawInt s.heap.objs.size)->IsPair h' TO x y->h'.IsListIter i1 l1 (k1+1)->IsTupIter h' i2 l2 (k2+1)->IsPair h' s.heap.objs.size x y->h'.objs.size=s.heap.objs.size+1->(∀c o,c≠z->c≠TO->c≠i1->c≠i2->s.heap.get? c=some o->h'.get? c=some o)->Q (some (.ref s.heap.objs.size)) { s with heap:=h' }):wpAny (model prog w) A (pyNext (.ref z)) Q E s:=by
 have j:s.TypeIs (.ref z) "zip":=⟨_,i,rfl⟩;unfold pyNext;exact Ra (wpAny_attempt (wpAny_callSpecial?_slot (name:=Str.ofString "__next__") j F.slot_zip_next (Rg F.slot_zip_next j F.entry_zip_next (Z28 D i l f h1 h2 h n r p λh' a1 a2 a3 a4 a5 a6 a7=>Rb (q h' a1 a2 a3 a4 a5 a6 a7)) (F.args_zip_next_1 _))))
def Z29{z TI TO i1 i2 l1 l2:Af}{k1 k2:Nat}{xs ys:Ae Ad}{a b:Ad}{Q:Aa Ad->Ac->Prop}(r:A.handled=none)(D:ZipApart z TI TO i1 i2 l1 l2)(j:IsZip s.heap z TI TO .none)(n:IsPair s.heap TI (.ref i1) (.ref i2))(h:IsPair s.heap TO a b)
  (h1:s.heap.IsListIter i1 l1 k1) (h2:IsTupIter s.heap i2 l2 k2) (i:s.heap.IsList l1 xs) (p:IsTup s.heap l2 ys) (f:xs[k1]?=none\/ys[k2]?=none)
  (q:∀h',(∀c o,c≠z->c≠TO->c≠i1->c≠i2->s.heap.get? c=some o->h'.get? c=some o)->Q none { s with heap:=h' }):wpAny (model prog w) A (pyNext (.ref z)) Q E s:=by
 have l:s.TypeIs (.ref z) "zip":=⟨_,j,rfl⟩;unfold pyNext;refine Ra (wpAny_attempt (wpAny_callSpecial?_slot (name:=Str.ofString "__next__") l F.slot_zip_next (Rg F.slot_zip_next l F.entry_zip_next (Z26 r D j n h h1 h2 i p f λh' e hk ⟨o,ho,hc⟩=>?_) (F.args_zip_next_1 _))));exact Ra (wpAny_isInstance (T := "StopIteration") (b:=true) ⟨o,ho,hc⟩ isSubtype_stop (Rb (q _ hk)))
end
abbrev zt1(h:Ah)(l1:Af):Ah:=h.push { cls:=.type "list_iterator",data:=.fields #[.ref l1,.int 0 0] }
abbrev zt2(h:Ah)(l1 l2:Af):Ah:=(zt1 h l1).push { cls:=.type "tuple_iterator",data:=.fields #[.ref l2,.int 0 0] }
abbrev zt3(h:Ah)(l1 l2:Af):Ah:=(zt2 h l1 l2).push { cls:=.type "tuple",data:=.seq #[.ref h.objs.size,.ref (zt1 h l1).objs.size] }
abbrev zt4(h:Ah)(l1 l2:Af):Ah:=(zt3 h l1 l2).push { cls:=.type "tuple",data:=.seq #[.none,.none] }
abbrev zt5(h:Ah)(l1 l2:Af):Ah:=(zt4 h l1 l2).push { cls:=.type "zip",data:=.fields #[.none,.bool false,.bool false,.ref (zt2 h l1 l2).objs.size,.ref (zt3 h l1 l2).objs.size] }
def IsTup.pushed{h:Ah}{a:Af}{its:Ae Ad}(x:IsTup h a its)(o:Obj):IsTup (h.push o) a its:=let ⟨o',e,r⟩:=x;⟨o',Qag o e,r⟩
def Z3C(l1 l2:Af)(xs ys:Ae Ad):Meets (Builtin.«zip.__new__» ⟨[.type "zip",.ref l1,.ref l2],[]⟩) (λ_ R s=>s.heap.IsList l1 xs/\IsTup s.heap l2 ys/\R (.ok (.ret (.ref (zt4 s.heap l1 l2).objs.size))) { s with heap:=zt5 s.heap l1 l2 }) :=
 .of_wp λprog w A R s h=>by
  obtain⟨a,g,d,tk,os⟩:=s;obtain⟨b,f,h⟩:=h;have j:=sub_zip;have l:Heap.IsList (Shared.heap ⟨a,g,d,tk,os⟩) l1 xs:=b;have i:IsTup (Shared.heap ⟨a.push { cls:=.type "list_iterator",data:=.fields #[.ref l1,.int 0 0] },g,d,tk,os⟩) l2 ys:=IsTup.pushed f _
  wp_walk using wpAny_pyIter_list l,iter_tuple i
  exact⟨_,rfl,h⟩
section
variable {prog:Aj}{w:Ak}{A:Ai}{E:Ad->Ac->Prop}{s:Ac}
def Z3d{l1 l2:Af}{xs ys:Ae Ad}{Q:Ad->Ac->Prop}(n:s.heap.IsList l1 xs)(t:IsTup s.heap l2 ys)
  (h:∀ h',IsZip h' (s.heap.objs.size + 4) (s.heap.objs.size + 2) (s.heap.objs.size + 3) .none->IsPair h' (s.heap.objs.size + 2) (.ref s.heap.objs.size) (.ref (s.heap.objs.size + 1))->IsPair h' (s.heap.objs.size + 3) .none .none->h'.IsListIter s.heap.objs.size l1 0->IsTupIter h' (s.heap.objs.size + 1) l2 0 ->
   (∀c o,s.heap.get? c=some o->h'.get? c=some o)->Q (.ref (s.heap.objs.size+4)) { s with heap:=h' }):wpAny (model prog w) A (call (.type "zip") [.ref l1,.ref l2]) Q E s:=by
 refine callType_new F.called_zip (by decide) (F.typeCall_zip_2 _ _) (F.newCall_zip_2 _ _) (λp=>F.args_object_init_3 p _ _) F.entry_zip_new (Z3C l1 l2 xs ys) ⟨n,t,?_⟩;have b:(zt1 s.heap l1).objs.size=s.heap.objs.size+1:=Qbj ..;have i:(zt2 s.heap l1 l2).objs.size=s.heap.objs.size+2:=by rw[Qbj,b]
 have f:(zt3 s.heap l1 l2).objs.size=s.heap.objs.size+3:=by rw[Qbj,i]
 have j:(zt4 s.heap l1 l2).objs.size=s.heap.objs.size+4:=by rw[Qbj,f]
 have a:(zt5 s.heap l1 l2).get? (zt4 s.heap l1 l2).objs.size=some _:=Qax _ rfl;have l:(zt5 s.heap l1 l2).get? (zt3 s.heap l1 l2).objs.size=some _:=Qag _ (Qax _ rfl);have r:(zt5 s.heap l1 l2).get? (zt2 s.heap l1 l2).objs.size=some _:=Qag _ (Qag _ (Qax _ rfl));have p2:(zt5 s.heap l1 l2).get? (zt1 s.heap l1).objs.size=some _:=Qag _ (Qag _ (Qag _ (Qax _ rfl)));have u:(zt5 s.heap l1 l2).get? s.heap.objs.size=some _:=Qag _ (Qag _ (Qag _ (Qag _ (Qax _ rfl))));show _/\_;rw[i,f,j]at a;rw[b,i]at r;rw[f]at l;rw[b]at p2;rw[j];exact⟨⟨_,a,rfl⟩,h _ a r l ⟨_,u,rfl,rfl⟩ ⟨_,p2,rfl,rfl⟩ λc o q=>Qag _ (Qag _ (Qag _ (Qag _ (Qag _ q))))⟩
end
def SqB(t:Bool)(K:Frag)(H:Hp)(b:Af)(ys:Ab V):Prop:=match t with|true=>SqT K H b ys|false=>SqL K H b ys
def ItB(t:Bool)(h:Ah)(it b:Af)(i:Nat):Prop:=match t with|true=>IsTupIter h it b i|false=>h.IsListIter it b i
def LsB(t:Bool)(h:Ah)(b:Af)(its:Ae Ad):Prop:=match t with|true=>IsTup h b its|false=>h.IsList b its
def Z58{t:Bool}{h h':Ah}{it b:Af}{i:Nat}(x:ItB t h it b i)(k:∀o,h.get? it=some o->h'.get? it=some o):ItB t h' it b i:=by
 cases t
 .exact Heap.IsListIter.at x k
 .exact wK x k
section
variable {X:Cx}{pins:Ab (Af×Obj)}{σ:L2.St}{H:Hp}{s:Ac}{t:Bool}{a:Af}{xs ys:Ab V}
def G0(I:Inv X pins σ H s)(h:SqB t X.K H a xs):∃its:Ab Ad,Vals xs its/\LsB t s.heap a its.toArray/\xs.length<=sizeLine:=by
 cases t
 .obtain⟨i,r,p,z⟩:=I.list h;exact⟨i,r,p.isList,z⟩
 .exact I.tuple h
def Z6d(I:Inv X pins σ H s)(h:SqB t X.K H a xs)(h':SqB t X.K H a ys):xs=ys:=by
 cases t
 .exact I.list_inj h h'
 .exact I.tuple_inj h h'
end
section
variable {prog:Aj}{w:Ak}{A:Ai}{E:Ad->Ac->Prop}{s:Ac}{t:Bool}{z TI TO i1 i2 l1 l2:Af}{k1 k2:Nat}{xs ys:Ae Ad}{x y a b:Ad}
def Z5Z{Q:Aa Ad->Ac->Prop}(D:ZipApart z TI TO i1 i2 l1 l2)(p:IsZip s.heap z TI TO .none)(f:IsPair s.heap TI (.ref i1) (.ref i2))(h:IsPair s.heap TO a b)
  (h1:s.heap.IsListIter i1 l1 k1) (h2:ItB t s.heap i2 l2 k2) (i:s.heap.IsList l1 xs) (j:LsB t s.heap l2 ys) (q:xs[k1]?=some x) (l:ys[k2]?=some y)
  (n:∀h',IsZip h' z TI TO (rawInt s.heap.objs.size)->IsPair h' TO x y->h'.IsListIter i1 l1 (k1+1)->ItB t h' i2 l2 (k2+1)->IsPair h' s.heap.objs.size x y->h'.objs.size=s.heap.objs.size+1->(∀c o,c≠z->c≠TO->c≠i1->c≠i2->s.heap.get? c=some o->h'.get? c=some o)->Q (some (.ref s.heap.objs.size)) { s with heap:=h' }):wpAny (model prog w) A (pyNext (.ref z)) Q E s:=by
 cases t
 .exact wpAny_pyNext_zip_item D p f h h1 h2 i j q l n
 .exact Z27 D p f h h1 h2 i j q l n
def Z60{Q:Aa Ad->Ac->Prop}(n:A.handled=none)(D:ZipApart z TI TO i1 i2 l1 l2)(q:IsZip s.heap z TI TO .none)(h:IsPair s.heap TI (.ref i1) (.ref i2))(i:IsPair s.heap TO a b)
  (h1:s.heap.IsListIter i1 l1 k1) (h2:ItB t s.heap i2 l2 k2) (j:s.heap.IsList l1 xs) (l:LsB t s.heap l2 ys) (f:xs[k1]?=none\/ys[k2]?=none)
  (p:∀h',(∀c o,c≠z->c≠TO->c≠i1->c≠i2->s.heap.get? c=some o->h'.get? c=some o)->Q none { s with heap:=h' }):wpAny (model prog w) A (pyNext (.ref z)) Q E s:=by
 cases t
 .exact wpAny_pyNext_zip_end n D q h i h1 h2 j l f p
 .exact Z29 n D q h i h1 h2 j l f p
def Z7U{Q:Ad->Ac->Prop}(i:s.heap.IsList l1 xs)(f:LsB t s.heap l2 ys)
  (h:∀ h',IsZip h' (s.heap.objs.size + 4) (s.heap.objs.size + 2) (s.heap.objs.size + 3) .none->IsPair h' (s.heap.objs.size + 2) (.ref s.heap.objs.size) (.ref (s.heap.objs.size + 1))->IsPair h' (s.heap.objs.size + 3) .none .none->h'.IsListIter s.heap.objs.size l1 0->ItB t h' (s.heap.objs.size + 1) l2 0 ->
   (∀c o,s.heap.get? c=some o->h'.get? c=some o)->Q (.ref (s.heap.objs.size+4)) { s with heap:=h' }):wpAny (model prog w) A (call (.type "zip") [.ref l1,.ref l2]) Q E s:=by
 cases t
 .exact call_zip_2 i f λh' a b c d e _=>h h' a b c d e
 .exact Z3d i f h
end
def Z9C(t:Bool)(K:Frag)(a b:Af):It :=
 ⟨fun i H => ∃ xs ys x y, SqL K H a xs /\ SqB t K H b ys /\ xs[i]? = some x /\ ys[i]? = some y,
  λi H v H'=>∃p x y,H p=none/\v=.ref p/\(∀xs,SqL K H a xs->xs[i]?=some x)/\(∀ys,SqB t K H b ys->ys[i]?=some y)/\H'=upd H p (.tup [x,y]),
  λi H=>∃xs ys,SqL K H a xs/\SqB t K H b ys/\(xs.length<=i\/ys.length<=i)⟩
def Z64{t:Bool}{P:Aj}{w:Ak}{K:Frag}{elts:Ab Ag}{k1:Nat}{pos:Pos}(a b z TI TO i1 i2:Af)(D:ZipApart z TI TO i1 i2 a b) :
  Z1c P w K (.Tuple elts k1 pos) (Z9C t K a b) [z,TI,TO,i1,i2] z (λi h=>IsZip h z TI TO .none/\IsPair h TI (.ref i1) (.ref i2)/\(∃u v,IsPair h TO u v)/\h.IsListIter i1 a i/\ItB t h i2 b i) where
 mem:=by simp
 obj:=λi h st c hc=>by
  obtain⟨L,M,⟨u,v,N⟩,h1,h2⟩:=st;simp only[Qad,QaO,or_false]at hc;rcases hc with hc|hc|hc|hc|hc
  .rw[hc];exact⟨_,L,λv q=>by cases q⟩
  .rw[hc];exact⟨_,M,λv q=>by cases q⟩
  .rw[hc];exact⟨_,N,λv q=>by cases q⟩
  .rw[hc];obtain⟨o,e,c,d⟩:=h1;exact⟨o,e,λv q=>by rw[d]at q;cases q⟩
  .rw[hc];cases t<;>(obtain⟨o,e,c,d⟩:=h2;exact⟨o,e,λv q=>by rw[d]at q;cases q⟩)
 keep:=λi h h' ⟨L,M,⟨u,v,N⟩,h1,h2⟩ k=>⟨k z (by simp) _ L,k TI (by simp) _ M,⟨u,v,k TO (by simp) _ N⟩,h1.at λo q=>k i1 (by simp) o q,Z58 h2 λo q=>k i2 (by simp) o q⟩
 item:=by
  intro X Y hw hK hc i pins s σ H E I G st hg;subst Y hw hK;obtain⟨xs,ys,x,y,Q,R,W,hy⟩:=hg;obtain⟨its,rv,p,hsz⟩:=I.list Q;obtain⟨T,U,p2,hsz2⟩:=G0 I R;obtain⟨u,hu,ru⟩:=rv.get W;obtain⟨u2,hu2,ru2⟩:=U.get hy;obtain⟨L,M,⟨ua,va,N⟩,h1,h2⟩:=st;have fz:=G z (by simp);have B:=G TO (by simp);have f1:=G i1 (by simp);have C:=G i2 (by simp);refine Z5Z D L M N h1 h2 p.isList p2 (x:=u) (y:=u2) (by simpa using hu) (by simpa using hu2) λh' a1 a2 a3 a4 a5 a6 hk=>?_;refine⟨_,rfl,wpAny_letOwnedTupleGo_zip (s:={ s with heap:=h' }) a1 λh'' hz'' hs''=>?_⟩;have J:H s.heap.objs.size=none:=I.fresh;have lt:∀b o,s.heap.get? b=some o->b≠s.heap.objs.size:=λb o q=>QaK (Qal q);have S:∀b o,b≠z->b≠TO->b≠i1->b≠i2->s.heap.get? b=some o->h''.get? b=some o:=λb o f l j A q=>(hs''.2 b f).trans (hk b o f l j A q);have hzz:z≠s.heap.objs.size:=lt _ _ L;have O:∀b u,H b=some u->b≠z/\b≠TO/\b≠i1/\b≠i2:=λb u q=>⟨λw=>(by rw[w,fz.1]at q;cases q),λw=>(by rw[w,B.1]at q;cases q),λw=>(by rw[w,f1.1]at q;cases q),λw=>(by rw[w,C.1]at q;cases q)⟩;have F:∀c,c∉[z,TO,i1,i2]->c≠z/\c≠TO/\c≠i1/\c≠i2:=λc hc=>by simpa using hc
  refine⟨.ref s.heap.objs.size,upd H s.heap.objs.size (.tup [x,y]),?_,rfl,⟨_,x,y,J,rfl,λzs hzs=>by rw[I.list_inj hzs Q];exact W,λzs hzs=>by rw[Z6d I hzs R];exact hy,rfl⟩,
   ⟨hz'',(hs''.2 _ D.TIz).trans (hk _ _ D.TIz D.TITO D.TIi1 D.TIi2 M),⟨_,_,(hs''.2 _ D.TOz).trans a2⟩,a3.at λo q=>(hs''.2 i1 D.i1z).trans q,Z58 a4 λo q=>(hs''.2 i2 D.i2z).trans q⟩,λc hc=>?_⟩
  .refine Inv.step (s:=s) (h':=h'') (t':=s.toks) (H':=upd H s.heap.objs.size (.tup [x,y])) (g':=s.gens) (d':=s.drawn) (ch:=[z,TO,i1,i2]) I (λc hc=>?_)
    (λc o _ _ hc q _=>let ⟨f,l,j,A⟩:=F c hc;S c o f l j A q) (λc o _ _ hc q _=>let ⟨f,l,j,A⟩:=F c hc;⟨o.slots,S c o f l j A q⟩)
    (λc o _ q n=>by rw[bB (lt c o q)];exact n) (λc o hc q=>let ⟨f,l,j,A⟩:=F c hc;⟨o,S c o f l j A q⟩)
    (λc ys q=>by rw[bB (cG q J)];exact q) (λc o u q=>by rw[bB (cG q J)];exact q) (λc ps q=>⟨#[],by rw[bB (cG q J),q];simp⟩) (λm hm=>?_) (λc u q=>?_) I.bare
   .simp only[Qad,QaO,or_false]at hc;rcases hc with hc|hc|hc|hc
    .rw[hc];exact⟨fz.2.2.2.1,fz.2.1,fz.2.2.2.2.1,fz.2.2.2.2.2⟩
    .rw[hc];exact⟨B.2.2.2.1,B.2.1,B.2.2.2.2.1,B.2.2.2.2.2⟩
    .rw[hc];exact⟨f1.2.2.2.1,f1.2.1,f1.2.2.2.2.1,f1.2.2.2.2.2⟩
    .rw[hc];exact⟨C.2.2.2.1,C.2.1,C.2.2.2.2.1,C.2.2.2.2.2⟩
   .obtain⟨o,es,ep,ho,r⟩:=hm;exact⟨o,es,ep,S _ o (Ne.symm fz.2.1) (Ne.symm B.2.1) (Ne.symm f1.2.1) (Ne.symm C.2.1) ho,r⟩
   .by_cases hb:c=s.heap.objs.size
    .subst hb;rw[bJ]at q;cases q;refine⟨by show 2<=sizeLine;decide,[u,u2],.cons ru (.cons ru2 .nil),_,(hs''.2 _ (Ne.symm hzz)).trans a5,rfl,_,rfl⟩
    .rw[bB hb]at q;refine(I.hok c u q).stay (λd v hc z=>?_) (λc z=>by rw[bB (cG z J)];exact z) λc ys z=>by rw[bB (cG z J)];exact z
     rcases hc with y|y
     .rw[y]at z ⊢;obtain⟨f,l,j,A⟩:=O c u q;exact S _ _ f l j A z
     .obtain⟨f,l,j,A⟩:=O d _ y;exact S _ _ f l j A z
  .have hb':c<s.heap.objs.size:=by
    simp only[Qad,QaO,or_false]at hc;rcases hc with hc|hc|hc|hc|hc
    .rw[hc];exact Qal L
    .rw[hc];exact Qal M
    .rw[hc];exact Qal N
    .rw[hc];obtain⟨o,q,_⟩:=h1;exact Qal q
    .rw[hc];cases t<;>(obtain⟨o,q,_⟩:=h2;exact Qal q)
   rw[bB (QaK hb')];exact(G c hc).1
 done:=by
  intro X Y hw hK hc i pins s σ H E I G st hg;subst Y hw hK;obtain⟨xs,ys,Q,R,W⟩:=hg;obtain⟨its,rv,p,hsz⟩:=I.list Q;obtain⟨T,U,p2,hsz2⟩:=G0 I R;obtain⟨L,M,⟨ua,va,N⟩,h1,h2⟩:=st;have hl:=rv.length;have hl2:=U.length;have fz:=G z (by simp);have B:=G TO (by simp);have f1:=G i1 (by simp);have C:=G i2 (by simp);have Z:its.toArray[i]?=none\/T.toArray[i]?=none:=by
   rcases W with z|z
   .left;simp;omega
   .right;simp;omega
  have F:∀c,c∉[z,TO,i1,i2]->c≠z/\c≠TO/\c≠i1/\c≠i2:=λc hc=>by simpa using hc
  have O:∀b u,H b=some u->b≠z/\b≠TO/\b≠i1/\b≠i2:=λb u q=>⟨λw=>(by rw[w,fz.1]at q;cases q),λw=>(by rw[w,B.1]at q;cases q),λw=>(by rw[w,f1.1]at q;cases q),λw=>(by rw[w,C.1]at q;cases q)⟩;refine Z60 (I.ok.hd hc) D L M N h1 h2 p.isList p2 Z λh' hk=>⟨rfl,?_⟩;refine Inv.step (s:=s) (h':=h') (t':=s.toks) (H':=H) (g':=s.gens) (d':=s.drawn) (ch:=[z,TO,i1,i2]) I (λc hc=>?_)
   (λc o _ _ hc q _=>let ⟨f,l,j,A⟩:=F c hc;hk c o f l j A q) (λc o _ _ hc q _=>let ⟨f,l,j,A⟩:=F c hc;⟨o.slots,hk c o f l j A q⟩)
   (λc o _ q n=>n) (λc o hc q=>let ⟨f,l,j,A⟩:=F c hc;⟨o,hk c o f l j A q⟩)
   (λc ys q=>q) (λc o u q=>q) (λc ps q=>⟨#[],by rw[q];simp⟩) (λm hm=>?_) (λc u q=>?_) I.bare
  .simp only[Qad,QaO,or_false]at hc;rcases hc with hc|hc|hc|hc
   .rw[hc];exact⟨fz.2.2.2.1,fz.2.1,fz.2.2.2.2.1,fz.2.2.2.2.2⟩
   .rw[hc];exact⟨B.2.2.2.1,B.2.1,B.2.2.2.2.1,B.2.2.2.2.2⟩
   .rw[hc];exact⟨f1.2.2.2.1,f1.2.1,f1.2.2.2.2.1,f1.2.2.2.2.2⟩
   .rw[hc];exact⟨C.2.2.2.1,C.2.1,C.2.2.2.2.1,C.2.2.2.2.2⟩
  .obtain⟨o,es,ep,ho,r⟩:=hm;exact⟨o,es,ep,hk _ o (Ne.symm fz.2.1) (Ne.symm B.2.1) (Ne.symm f1.2.1) (Ne.symm C.2.1) ho,r⟩
  .refine(I.hok c u q).stay (λd v hc z=>?_) (λc z=>z) λc ys z=>z;rcases hc with y|y
   .rw[y]at z ⊢;obtain⟨f,l,j,A⟩:=O c u q;exact hk _ _ f l j A z
   .obtain⟨f,l,j,A⟩:=O d _ y;exact hk _ _ f l j A z
 self:=λ_ _ _ _ _ st h=>wpAny_pyIter_zip st.1 h
section
variable {X:Cx}{elts:Ab Ag}{k1:Nat}{tpos:Pos}
def iZB(t:Bool)(K:Frag)(ta:TA):TI:=λσ H R=>ta σ H λvs H1=>∃a b,vs=[.ref a,.ref b]/\(∃xs,SqL K H1 a xs)/\(∃ys,SqB t K H1 b ys)/\R (Z9C t K a b) H1
def Zae{t:Bool}{l l2:Ag}{ta:TA}{p pos:Pos}(x:Gl X "zip")(C:X.mg "zip" = none)(B:PA X [l,l2] ta)(hs:starEach [l,l2] X.env=[(false,eval l X.env),(false,eval l2 X.env)]:=by rfl)(j:starEach [l2] X.env=[(false,eval l2 X.env)]:=by rfl) :
  PI X (.Tuple elts k1 tpos) (.Call (.Name "zip" p) [l,l2] [] pos) (iZB t X.K ta):=by
 intro pins s σ H R I h;refine Call_ (tX I x C Z5H (PyProof.Rows.callWith_type1 (thn (B pos pins s σ H _ I h) λus s1 ⟨vs,H1,I1,r1,q1⟩=>?_) (by rw[hs,j]) (by rw[j];rfl)));obtain⟨a,b,rfl,⟨xs,u⟩,⟨ys,n⟩,q⟩:=q1;cases r1 with
 |cons r rr =>
  cases rr with
  |cons r' rr =>
   cases rr;cases r;cases r';obtain⟨its,J,pl,G⟩:=I1.list u;obtain⟨v,E,i,F⟩:=G0 I1 n;have y:a<s1.heap.objs.size:=by obtain⟨o,e,_⟩:=pl.isList;exact Qal e
   have A:b<s1.heap.objs.size:=by cases t<;>(obtain⟨o,e,_⟩:=i;exact Qal e)
   refine Z7U pl.isList i λh' hzp hTI hTO hi1 hi2 hk=>?_;refine wpAny_pyIter_zip (s:={ s1 with heap:=h' }) hzp ?_;have w:Inv X pins σ H1 { s1 with heap:=h' }:=I1.kept (t':=s1.toks) hk;refine⟨s1.heap.objs.size+4,[s1.heap.objs.size+4,s1.heap.objs.size+2,s1.heap.objs.size+3,s1.heap.objs.size,s1.heap.objs.size+1],_,_,H1,rfl,w,Z64 (t:=t) a b _ _ _ _ _ (zipApart_new y A),⟨hzp,hTI,⟨_,_,hTO⟩,hi1,hi2⟩,λc hc=>?_,q⟩;have f:s1.heap.objs.size<=c:=by
    simp only[Qad,QaO,or_false]at hc;rcases hc with hc|hc|hc|hc|hc<;>(rw[hc];first|exact Qap _|exact Nat.le_add_right _ _)
   exact I1.fpOk f (I1.hok.fresh f)
end
end L2
namespace PD
open PySem PySem.Spec PyProof.Rows L2
section
variable {X:Cx}{m1:Bool}{rs:Ab Nat}{a b c:Ag}{fs:En->Aa (Ab D)}{pos:Pos}
def dB:Bool->Ab D->D
 |true,ys=>.tup ys
 |false,ys=>.lst ys
def Z4k{t:Bool}{K:Frag}{H:Hp}{ys:Ab D}{v:V}{fp:Ab Af}(h:Rep K false H (dB t ys) v fp):∃p vs f',v=.ref p/\SqB t K H p vs/\Reps K false H ys vs f'/\∀c∈f',c∈fp:=by
 cases t
 .obtain⟨p,vs,f,e,q,r,s⟩:=cC h;exact⟨p,vs,f,e,q,r,s⟩
 .simp only[dB,Rep]at h;obtain⟨p,vs,e,q,r⟩:=h;exact⟨p,vs,_,e,q,r,λc hc=>hc⟩
def Z5h{t:Bool}{K:Frag}{H0:Hp}{xs ys:Ab D}{a b:Af}{f1 I:Ab Af}(O:Rep K false H0 (.lst xs) (.ref a) f1)(Q:Rep K false H0 (dB t ys) (.ref b) I):F5 K (Z9C t K a b) H0 (nG xs ys) (f1++I):=λH k i=>by
 have R:=Rep.keep _ _ _ (k.sub λb hb=>Qan _ hb) O;have M:=Rep.keep _ _ _ (k.sub λb hb=>Qae _ hb) Q;obtain⟨p,vs,U,e,j,C,A⟩:=cC R;cases e;obtain⟨W,l,L,e,h,o,n⟩:=Z4k M;cases e;refine⟨λd hd=>?_,λN=>⟨vs,l,j,h,by rw[C.length,o.length];rw[Q0]at N;omega⟩⟩;rw[Q1]at hd;split at hd
 .rename_i x y J P;cases hd;obtain⟨v,f,h1,h2,h3,_⟩:=C.get J;obtain⟨u,f',r,B,F,_⟩:=o.get P;refine⟨⟨vs,l,v,u,j,h,h1,r⟩,λx H' y=>?_⟩;obtain⟨q,w,w',hq,rfl,T,S,rfl⟩:=y;have E:=T vs j;rw[h1]at E;cases E;have G:=S l h;rw[r]at G;cases G;refine⟨cJ hq,f++f',tL hq ?_,λc hc=>?_⟩
  .simp only[Reps];exact⟨v,[u],f,f',rfl,rfl,h2,u,[],f',[],rfl,by simp,B,rfl,rfl⟩
  .rcases Qah.mp hc with z|z
   .exact Qan _ (A c (h3 c z))
   .exact Qae _ (n c (F c z))
 .cases hd
def zC:Ab D->Aa (Ab D)
 |[.lst xs,.tup ys]=>some (nG xs ys)
 |_=>none
def FZB:Bool->Ab D->Aa (Ab D)
 |true=>zC
 |false=>Z80
def fzB{t:Bool}{xs ds:Ab D}(e:FZB t xs=some ds):∃u v,xs=[.lst u,dB t v]/\nG u v=ds:=by
 cases t <;> (simp only [FZB, Z80, zC] at e; split at e; · cases e; exact ⟨_, _, rfl, rfl⟩
              . cases e)
def Z8f{t:Bool}{elts:Ab Ag}{k1:Nat}{tpos p:Pos}(A:Gl X "zip")(E:X.mg "zip" = none)(C:QA X m1 rs [a,b] fs)(hs:starEach [a,b] X.env=[(false,eval a X.env),(false,eval b X.env)]:=by rfl)(l:starEach [b] X.env=[(false,eval b X.env)]:=by rfl) :
  QI X (.Tuple elts k1 tpos) rs (.Call (.Name "zip" p) [a,b] [] pos) (sB1 (FZB t) fs) :=
 .mk (Zae A E C hs l) λσ H R ⟨env,F,ds,ok,e,q⟩=>by
  unfold sB1 at e;cases h1:fs env with
  |none=>simp only[h1]at e;cases e
  |some xs =>
   simp only[h1,Qbc]at e;obtain⟨M,K,rfl,rfl⟩:=fzB e
   .refine⟨env,F,_,ok,h1,λvs H' fp s r c=>?_⟩;obtain⟨v,J,f,f',rfl,o,w,rfl⟩:=Z1s r;have i:=Rep.weak _ _ _ o;have h:=Rep.weak _ _ _ w;obtain⟨p,ws,G,rfl,n,L,y⟩:=cC o;obtain⟨x,ws',B,rfl,j,I,u⟩:=Z4k h;refine⟨p,x,rfl,⟨ws,n⟩,⟨ws',j⟩,q _ H' (f++f') s (Z5h i h) (λc hc=>?_) ⟨c.1,λz=>(by cases z)⟩⟩;rcases Qah.mp hc with z|z
    .exact Rep.dom _ _ _ i c z
    .exact Rep.dom _ _ _ h c z
end
def HD(K:Frag)(x:Str)(st:Stmt)(f:Af):Prop:=nsIn K mainGlobals x=some (some (.ref f))/\(∃oc od kV doc pm an cd ct sl,K.lookup f=some ⟨oc,od,.func (fnOf x x (dL st) (cB st) (aR st) .none kV doc pm an cd ct),sl⟩/\codeIn K cd x=true)/\keepIn K (.ref f)=true
def HU(x:Str)(st:Stmt)(ps:Ab Str):Prop:=∀(r:Ad×Ad×Ad×Aa Af×Ad×Ad) (us:Ab Ad),us.length=ps.length->bindArgs (fnOf x x (dL st) (cB st) (aR st) .none r.1 r.2.1 r.2.2.1 r.2.2.2.1 r.2.2.2.2.1 r.2.2.2.2.2) ⟨us,[]⟩=pure (ps.zip us)
def HX(P:Aj)(w:Ak)(K:Frag)(mg:Str->Aa Ad)(base:Ah):Prop:=∃hh:Ah,K.In hh/\hh.Ns mainGlobals mg
section
variable {K:Frag}{x:Str}{st:Stmt}{f:Af}{ps:Ab Str}{P:Aj}{w:Ak}{mg:Str->Aa Ad}{base:Ah}{k n:Nat}
def HD.mk{i kV b j cd ct:Ad}{n an:Aa Af}{h:Ae (Aa Ad)}(a:nsIn K mainGlobals x=some (some (.ref f)))(l:K.lookup f=some ⟨i,n,.func (fnOf x x (dL st) (cB st) (aR st) .none kV b j an cd ct),h⟩)
  (c:codeIn K cd x=true) (k:keepIn K (.ref f)=true):HD K x st f:=⟨a,⟨i,n,kV,b,j,an,cd,ct,h,l,c⟩,k⟩
def HD.use(h:HD K x st f)(Y:HX P w K mg base)(i:HU x st ps) :
  ∃fd,FunD K x x st f fd/\mg x=some (.ref f)/\keepIn K (.ref f)=true/\Binds K fd ps []:=by
 obtain⟨a,⟨o,p,kV,b,j,an,cd,ct,n,l,c⟩,k⟩:=h;obtain⟨_,X,G⟩:=Y;exact⟨_,rW l c k,mg_of X G a,k,.all (i (kV,b,j,an,cd,ct))⟩
def HD.c(h:HD K x st f)(Y:HX P w K mg base)
  (ok:∀fd,FunD K x x st f fd->gT P w K mg base CX0 k f fd ps (spD K n F')) (i:HU x st ps):bL P w K mg base x [] k n F':=by
 obtain⟨fd,F,a,j,b⟩:=h.use Y i;exact⟨⟨f,fd,ps,[],[],ok fd F,a,j,b,.nil,λH=>by simp only[Reps];exact⟨trivial,trivial⟩⟩⟩
end
def pJ(t:Ab (Af×Bool))(fa:En->Aa D):En->Aa D:=λenv=>match fa env with
 |some (.exc C)=>(t.find? λp=>decide (p.1=C)).map λp=>.bl p.2
 |_=>none
section
variable {X:Cx}{E:XK}{m m1:Bool}{rs rs1:Ab Nat}{a e:Ag}{f fa:En->Aa D}{pos p:Pos}{pre:En->Bool}
def tF(h:∀p∈t,QE X m rs e (Z39 p.1 p.2 fa)):QE X m rs e (pJ t fa):=λpins s σ H Q I q=>by
 obtain⟨env,F,d,ok,a,q⟩:=q;unfold pJ at a;split at a
 .rename_i C h1;cases b:t.find? λp=>decide (p.1=C) with
  |none=>rw[b]at a;cases a
  |some p =>
   rw[b]at a;cases a;have f:=List.find?_some b;simp only[Rk]at f;exact h p (List.mem_of_find?_eq_some b) pins s σ H Q I ⟨env,F,_,ok,by unfold Z39;rw[h1];simp[f],q⟩
 .cases a
def Z0D{α:Type}{Z:α->Prop}{x y z:α}(h1:Z x)(h2:Z y)(h3:Z z):∀p∈[x,y,z],Z p:=λp hp=>by
 simp only[Qad,QaO,or_false]at hp;rcases hp with rfl|rfl|rfl
 .exact h1
 .exact h2
 .exact h3
def Z4G(b:QE X m1 rs1 a fa)(i:PE X e (tXE X.K E pre f))(h1:starEach [a,e] X.env=(false,eval a X.env)::starEach [e] X.env:=by rfl)(h2:starEach [e] X.env=(false,eval e X.env)::starEach [] X.env:=by rfl):PE X (.Tuple [a,e] x1 pos) (tXE X.K E (xI fa pre) f) :=
 PE.mono (pe_tup (pa_cons b (pa_cons i pa_nil h2) h1)) λσ H Q ⟨env,F,C,ok,h,hp,q⟩=>by
  unfold xI at hp;rw[Qam]at hp;obtain⟨d,hd⟩:=Qa5.mp hp.1;exact⟨env,F,d,ok,hd,λv H1 fp s r c=>⟨env,F,C,ok.same s,h,hp.2,λH' s'=>q H' (s.trans s')⟩⟩
end
def Z1P{K:Frag}{H:Hp}{ws:Ab D}{fw:Ab Af}(W:Hw K H [] ws fw):ws=[]/\fw=[]:=by
 have h:=W.rep;cases ws with
 |nil=>simp only[QaV,Reps]at h;exact⟨rfl,h.2⟩
 |cons w r =>
  simp only[QaV,Reps]at h;obtain⟨v,a,_,_,e,_⟩:=h;cases e
def N2:Hid H []=H:=by funext b;exact bN (by simp)
def Za9{X:Cx}{sts:Ab Stmt}{g:En->Ab D->Res×Ab D}(h:QSsg X [] sts g):QSs X sts (λenv=>(g env []).1):=λpins s σ H E I ⟨P,env,IS,q⟩=>h pins s σ H E I (by
 refine⟨P,env,[],⟨[],⟨by simp only[QaV,Reps];exact⟨trivial,trivial⟩,Qaz,rfl⟩,by rw[N2];exact IS⟩,?_⟩;have b:∀{σ':L2.St}{H':Hp}{env':En}{ws:Ab D},SInvG X.K P H' σ' env' [] ws->SInv X.K P H' σ' env':=λ⟨fw,W,a⟩=>by
  obtain⟨_,rfl⟩:=Z1P W;rw[N2]at a;exact a
 have q:Post X.K P E (g env []).1:=q
 revert q
 generalize (g env []).1=r;intro q;cases r with
 |next e'=>exact λσ' H' J=>q σ' H' (b J)
 |ret d =>
  intro v H' fp fw W s1 i j f;obtain⟨_,rfl⟩:=Z1P W;rw[N2]at s1 i;exact q v H' fp s1 i j f
 |brk e'=>exact λσ' H' J=>q σ' H' (b J)
 |cont e'=>exact λσ' H' J=>q σ' H' (b J)
 |bad=>exact q)
def gS(g:En->Res):En->Ab D->Res×Ab D:=λenv ws=>(g env,ws)
def cU{X:Cx}{A:Ab Af}{st:Stmt}{g:En->Res}(h:QS X st g):QSg X A st (gS g):=Z8S h
section
variable {K:Frag}{x:Str}{st:Stmt}{f:Af}{ps:Ab Str}{P:Aj}{w:Ak}{mg:Str->Aa Ad}{base:Ah}{k n:Nat}{C B:Af}
def HD.e(h:HD K x st f)(Y:HX P w K mg base)
  (ok:∀fd,FunD K x x st f fd->gT P w K mg base (CXe P w) k f fd ps (spE K n F')) (i:HU x st ps):dM P w K mg base x [] k n F':=by
 obtain⟨fd,F,a,j,b⟩:=h.use Y i;exact⟨⟨f,fd,ps,[],[],ok fd F,a,j,b,.nil,λH=>by simp only[Reps];exact⟨trivial,trivial⟩⟩⟩
theorem HD.g{g:Af->D->Ab D->Aa (D×D)}(h:HD K x st f)(Y:HX P w K mg base)
  (ok:∀fd,FunD K x x st f fd->gT P w K mg base CX0 k f fd ps (spG K n g)) (i:HU x st ps):sK P w K mg base x k n g:=by
 obtain⟨fd,F,a,j,b⟩:=h.use Y i;exact⟨⟨f,fd,ps,ok fd F,a,j,b⟩⟩
def Z7R(hc:PySem.W.clsIn K B=some cd)(a:PySem.W.typeIn K (.ref B)=some (.type "type"))(hs:PySem.W.subIn K (.ref C) (.ref B)=some b)(f:PySem.W.subIn K (.ref B) (.type "BaseException")=some true):PySem.W.exmOne K (.ref C) (.ref B)=some b:=by
 unfold PySem.W.exmOne PySem.W.kitCls;rw[f];simp[hc,a,hs]
end
def TupK(K:Frag)(a:Af)(xs:Ab V):Prop:=∃(o:Obj) (its:Ae Ad) (n:Nat),K.lookup a=some o/\o.cls=.type "tuple" /\ o.data=.seq its n/\its.size<=sizeLine/\Vals xs its.toList
def TupK.sq{K:Frag}{H:Hp}{a:Af}{xs:Ab V}(h:TupK K a xs):SqT K H a xs:=.inr h
def esT(K:Frag)(P:Aj)(w:Ak):Ab (Ab Key×Ab Str)->Ab DictEntry->Prop
 |[],[]=>True
 |p::kvs,e::es=>(∃b c,e=⟨tupleKeyHash (gI P w) p.1,.ref b,.ref c⟩/\TupK K b (p.1.map kV)/\TupK K c (p.2.map V.str))/\esT K P w kvs es
 |_,_=>False
structure Z8r(K:Frag)(P:Program)(w:World)(mg:Str->Option Value)(name:Str)(kvs:List (List Key×List Str)):Prop where
 ex:∃a es n,mg name=some (.ref a)/\K.lookup a=some ⟨.type "dict",none,.dict es n,#[]⟩/\(a==sysModules)=false/\esT K P w kvs es.toList/\(kvs.map (·.1)).Nodup
def lkT(kvs:Ab (Ab Key×Ab Str))(k:Ab Key):Aa (Ab Str):=(kvs.find? λp=>decide (p.1=k)).map (·.2)
theorem Z1X{K:Frag}{P:Aj}{w:Ak}:∀{kvs:Ab (Ab Key×Ab Str)}{es:Ab DictEntry},esT K P w kvs es->∃xs:Ab (Ab Key×Af×Ad),es=xs.map (entryOfKey (tupleKind (gI P w)))/\xs.map (·.1)=kvs.map (·.1)/\(∀x∈xs,TupK K x.2.1 (x.1.map kV)) /\
  ∀k,match lkT kvs k with
   |some ss=>∃b c,atKey xs k=some (b,.ref c)/\TupK K c (ss.map V.str)
   |none=>atKey xs k=none
 |[],[],_=>⟨[],rfl,rfl,λx hx=>(by cases hx),λk=>rfl⟩
 |[],_::_,h=>h.elim
 |_::_,[],h=>h.elim
 |p::kvs,e::es,⟨⟨b,c,he,hb,hc⟩,r⟩=>by
  obtain⟨xs,f,j,i,l⟩:=Z1X r;refine⟨(p.1,b,.ref c)::xs,by rw[f,he];rfl,by simp[j],λx hx=>?_,λk=>?_⟩
  .rcases Qad.mp hx with rfl|hx
   .exact hb
   .exact i x hx
  .by_cases a:p.1=k
   .have h1:lkT (p::kvs) k=some p.2:=by simp[lkT,Qa7,a]
    have h2:atKey ((p.1,b,Value.ref c)::xs) k=some (b,.ref c):=by simp[atKey,Qa7,a]
    rw[h1,h2];exact⟨b,c,rfl,hc⟩
   .have h1:lkT (p::kvs) k=lkT kvs k:=by simp[lkT,Qa7,a]
    have h2:atKey ((p.1,b,Value.ref c)::xs) k=atKey xs k:=by simp[atKey,Qa7,a]
    rw[h1,h2];exact l k
theorem Z1J{K:Frag}{m:Bool}{H:Hp}:∀(ss:Ab Str),Reps K m H (ss.map D.str) (ss.map V.str) []
 |[]=>iV
 |s::ss=>Reps.consR (f1:=[]) kJ (Z1J ss)
def Z9(kvs:Ab (Ab Key×Ab Str)):Ab D->Aa D
 |[.tup kd]=>match V7 kd with
  |some k=>some (match lkT kvs k with|some ss=>.tup (ss.map D.str)|none=>.non)
  |none=>none
 |_=>none
section
variable {X:Cx}{m m1:Bool}{rs rs1:Ab Nat}{e:Ag}{fe:En->Aa D}{p apos cpos:Pos}{nm:Str}{kvs:Ab (Ab Key×Ab Str)}
def Z6V(W:X.A.units+1<cLine)(T:Z8r X.K X.prog X.w X.mg nm kvs)(U:Gl X nm)(he:QE X m1 rs1 e fe)(L:nDb nm:=by decide)(o:attributeBase (.Name nm p) "get" X.env (eval (.Name nm p) X.env)=eval (.Name nm p) X.env:=by rfl)
  (E:((backTo cpos (starEach [e] X.env)).all (fun x=>!x.1) && (backToKw cpos (keywordEach [] X.env)).all (fun x=>x.1.isSome)
   && decide ([e].length+([]:Ab Keyword).length+(if ([]:Ab Keyword).isEmpty then 0 else 1)<30))=true:=by rfl)
  (l:(apos.endLine==cpos.line)=true:=by rfl) (i:backTo cpos (starEach [e] X.env)=[(false,eval e X.env)]:=by rfl) :
  QE X m rs (.Call (.Attribute (.Name nm p) "get" apos) [e] [] cpos) (λenv=>(aA fe aF env).bind (Z9 kvs)):=by
 intro pins s σ H Q I ⟨env,F,d,ok,ee,q⟩;obtain⟨a,es,n,hm,O,lo,P,N⟩:=T.ex;obtain⟨xs,Z,Y,x3,x4⟩:=Z1X P;have J:∀{s':Ac}{H':Hp},Inv X pins σ H' s'->s'.heap.DictOfH (tupleKind (gI X.prog X.w)) a xs:=λR=>⟨_,es,n,R.kIn _ _ O,⟨rfl,rfl,rfl⟩,rfl,Z,λx j=>Z8p R (x3 x j).sq,by rw[Y];exact N⟩;refine wpAny_Call_method o E l PySem.F.plainAttrs_dict PySem.F.slot_dict_get PySem.F.type_dict_get (thn (oW (v:=.ref a) U hm rfl L pins s σ H (λv H1=>v=.ref a/\H1=H) I ⟨rfl,rfl⟩) λu s1 ⟨x,H1,I1,rx,⟨ex,eH⟩⟩=>?_);subst ex eH;obtain rfl:u=Value.ref a:=rx;have G:=J I1;refine⟨G.typeIs,λb e=>by cases e;exact⟨_,I1.kIn _ _ O,rfl⟩,?_⟩;rw[i];cases h1:fe env with
 |none=>simp only[aA,h1]at ee;cases ee
 |some dx =>
  simp only[aA,aF,h1,Qbc]at ee;cases dx with
  |tup kd =>
   simp only[Z9]at ee;cases h:V7 kd with
   |none=>rw[h]at ee;cases ee
   |some k =>
    rw[h]at ee;dsimp only at ee;refine Calls.callWith_builtin rfl (Calls.evalArgs_plain (Calls.spliced_cons (thn (he pins s1 σ H1 (λv H2=>∃b,v=.ref b/\SqT X.K H2 b (k.map kV)/\Same H1 H2) I1 ⟨env,F,_,ok,h1,λv H2 fp s2 r c=>?_⟩) λiv s2 ⟨y,H2,I2,ry,b,ey,hb,sm⟩=>Calls.spliced_nil ?_)))
    .simp only[Rep]at r;obtain⟨b,S,rfl,B,M⟩:=r;rw[yB h M]at B;exact⟨b,rfl,B,s2⟩
    .subst ey;obtain rfl:iv=Value.ref b:=ry;have t:=J I2;refine call_meetsIn PySem.F.slot_dict_get t.typeIs PySem.F.entry_dict_get (PySem.F.args_dict_get_2 _ _) (meetsH_dict_get (tupleKind (gI X.prog X.w)) a b lo) ⟨tupleKind_room_in1 W,k,xs,Z8p I2 hb,t,?_⟩;have f:=x4 k;cases j:lkT kvs k with
     |none =>
      rw[j]at f ee;have C:d=.non:=(QaG ee).symm;subst C;rw[f];exact⟨.non,H2,I2.tok _,rfl,q _ H2 [] sm mQ .nil⟩
     |some ss =>
      rw[j]at f ee;have C:d=.tup (ss.map D.str):=(QaG ee).symm;subst C;obtain⟨b',c',f,hc⟩:=f;rw[f];exact⟨.ref c',H2,I2.tok _,rfl,q _ H2 [] sm (by simp only[Rep];exact⟨c',_,rfl,hc.sq,Z1J ss⟩) .nil⟩
  |_=>simp only[Z9]at ee;cases ee
end
section
variable {g h k:En->Ab D->Res×Ab D}{g0:En->Res}{env e:En}{ws w1:Ab D}{d:D}{f:En->Aa D}{c:En->Aa Bool}{i:Nat}{r:Res×Ab D}{a:Af}{t:En->Ab D->Aa (Bool×Ab D)}
def rV(h1:g env ws=(.next e,w1))(q:k e w1=r):cD g k env ws=r:=by unfold cD;rw[h1];exact q
def Z8m(h1:g env ws=(.ret d,w1)):cD g k env ws=(.ret d,w1):=by unfold cD;rw[h1]
def N9(h1:g0 env=.next e)(q:k e ws=r):cD (gS g0) k env ws=r:=rV (by unfold gS;rw[h1]) q
def Zb9(h1:g0 env=.ret d):cD (gS g0) k env ws=(.ret d,ws):=Z8m (by unfold gS;rw[h1])
def lK(h1:f env=some d)(q:k (env.set i (some (true,d))) ws=r):cD (gS (aW i f)) k env ws=r:=N9 (by unfold aW;rw[h1]) q
def Zba(h1:c env=some true)(q:g env ws=r):nF (yG c) g h env ws=r:=by unfold nF yG;rw[h1];exact q
def Zbb(h1:c env=some false)(q:h env ws=r):nF (yG c) g h env ws=r:=by unfold nF yG;rw[h1];exact q
def gNo(h1:c env=some false)(q:k env ws=r):cD (nF (yG c) g (gS aX)) k env ws=r:=rV (Zbb h1 rfl) q
def Zat(h1:c env=some true)(q:g env ws=(.ret d,w1)):cD (nF (yG c) g h) k env ws=(.ret d,w1):=Z8m (Zba h1 q)
def Z9r(h1:f env=some d):gS (bA f) env ws=(.ret d,ws):=by unfold gS bA;rw[h1]
def O0(h1:fs env=some (.fn a [] []::ds))(h2:G a w ds=some (d,w')):zQ [a] 0 G fs env [w]=some (d,[w']):=by
 unfold zQ;rw[h1];simp[h2]
def Z5m(h1:ga env ws=some (d,w1))(h2:f env=some y)(h3:eqN 8 d y=some b):gEq neg ga f env ws=some (if neg then !b else b,w1):=by
 unfold gEq;rw[h1];simp only[h2,h3,QaH]
def Z4p(h1:t env ws=some (false,w1))(q:h env w1=r):nF t g h env ws=r:=by unfold nF;rw[h1];exact q
def T4(h1:ga env ws=some (d,w1)):qY ga env ws=(.ret d,w1):=by unfold qY;rw[h1]
def V0(h1:g env ws=(.ret d,w1))(hd:∀C,d ≠ .exc C):xR g env ws=(.ret d,w1):=by
 unfold xR;rw[h1];cases d<;>first|rfl|exact absurd rfl (hd _)
def tJ(h1:g env ws=(.next e,w1)):xR g env ws=(.next e,w1):=by unfold xR;rw[h1];rfl
def Z4o(h1:f (φ env ws)=some (.exc C))(a:pre (φ env ws)=true):rA φ pre f g env ws=(.ret (.exc C),ws):=by unfold rA;rw[h1];exact if_pos a
def qZ(h1:f (φ env ws)=some d)(hd:∀C,d ≠ .exc C):rA φ pre f g env ws=xR g env ws:=by
 unfold rA;split
 .rename_i C h2;rw[h1]at h2;cases h2;exact absurd rfl (hd C)
 .rfl
def Z4r(h1:ga env ws=some (d,[.obj CD ns ds]))(h2:ns.length<100)(h3:pln d=true)(f:env[i]?=some (some (o,.fn a [] [])))(b:mO nm d ns ds=some (ns',ds')) :
  T7 CD a i nm ga env ws=(.next env,[.obj CD ns' ds']):=by
 unfold T7;rw[h1];simp only;rw[if_pos ⟨rfl,h2,h3,o,f⟩,b]
def Z4s(h1:f env=some (.obj C ns ds))(b:pln (.obj C ns ds)=true)(h2:∀a,∃w',H a (env.set i (some (true,.fn a [] []))) [.obj C ns ds]=(.ret d,[w'])):T8 i f H env []=(.ret d,[]):=by
 unfold T8;rw[h1];simp only;rw[if_pos b,Z3y (r:=some (d,[],true)) λa=>?_];obtain⟨w',e⟩:=h2 a;simp only[Qbq,e,wY,QaH];rfl
theorem Z1V(I:Nat->En->Prop):∀(ds:Ab D) (n:Nat) (env:En),(∀j d e,ds[j]?=some d->I (n+j) e->∃a,b (e.set i (some (false,d))) ws=(.next a,ws)/\I (n+j+1) a)->I n env->∃a,zR i b ds env ws=(.next a,ws)/\I (n+ds.length) a
 |[],n,env,_,h0=>⟨env,rfl,h0⟩
 |d::ds,n,env,st,h0=>by
  obtain⟨a,h1,h2⟩:=st 0 d env rfl h0;obtain⟨f,h3,h⟩:=Z1V I ds (n+1) a (λj d' e hd hI=>by
   have:=st (j+1) d' e hd (by rw[show n+(j+1)=n+1+j by omega];exact hI);rw[show n+(j+1)+1=n+1+j+1 by omega]at this;exact this) h2
  refine⟨f,?_,by rw[Qaf,show n+(ds.length+1)=n+1+ds.length by omega];exact h⟩;unfold zR;rw[h1];exact h3
def Z4q(hs:src env=some ds)(I:Nat->En->Prop)(h:I 0 (fz rs env))(st:∀j d e,ds[j]?=some d->I j e->∃a,b (e.set i (some (false,d))) ws=(.next a,ws)/\I (j+1) a)
  (f:∀e,I ds.length e->k e ws=r):cD (T6 rs src i b) k env ws=r:=by
 obtain⟨a,h1,h2⟩:=Z1V (i:=i) (b:=b) (ws:=ws) I ds 0 (fz rs env) (λj d e hd hI=>by rw[Qbh]at hI ⊢;exact st j d e hd hI) h;rw[Qbh]at h2;exact rV (by unfold T6;rw[hs];exact h1) (f a h2)
def Z2z(h1:fs env=some xs)(h2:m∉ns)(h3:env[il]?=some (some (o,.fn a [] [])))(b:G a (.obj CD ns ds) xs=some (d,w'))(hd:∀C,d ≠ .exc C) :
  xA a CD m Cs il i j kk G fs env [.obj CD ns ds]=(.next (env.set i (some (true,d))),[w']):=by
 unfold xA;rw[h1];simp only;rw[if_pos ⟨rfl,h2,o,h3⟩,b];cases d<;>first|rfl|exact absurd rfl (hd _)
def Z2A(h1:fs env=some xs)(h2:m∉ns)(h3:env[il]?=some (some (o,.fn a [] [])))(n:G a (.obj CD ns ds) xs=some (.exc C,w'))(l:C∈Cs)(h:j≠kk)(b:j<env.length)(f:kk<env.length) :
  xA a CD m Cs il i j kk G fs env [.obj CD ns ds]=(.next ((env.set j (some (true,.exc C))).set kk none),[w']):=by
 unfold xA;rw[h1];simp only;rw[if_pos ⟨rfl,h2,o,h3⟩,n];simp only;rw[if_pos ⟨l,h,b,f⟩]
def rB(h1:g0 env=.ret d)(hd:∀C,d ≠ .exc C):nL g0 env=.ret d:=by
 unfold nL;rw[h1];cases d<;>first|rfl|exact absurd rfl (hd _)
def J9(h1:g0 (enStart L ds)=.next e):runF L g0 ds=some .non:=by unfold runF;rw[h1]
def Z5w(h1:f env=some (.exc C)):aL (rOr fD f (rC (fNX f))) k0 env=.ret (.exc C):=by unfold aL;rw[jQ h1 rfl]
def Z5x(h1:f env=some d)(hd:∀C,d ≠ .exc C)(q:k0 env=r0):aL (rOr fD f (rC (fNX f))) k0 env=r0:=by unfold aL;rw[gG h1 hd];unfold rC;rw[eL h1 hd];exact q
def Z8c(h1:f env=some d):rOr fD f (bA (fNX f)) env=.ret d:=by
 by_cases a:∃C,d=.exc C
 .obtain⟨C,rfl⟩:=a;exact jQ h1 rfl
 .have hd:∀C,d ≠ .exc C:=λC e=>a ⟨C,e⟩;rw[gG h1 hd];unfold bA;rw[eL h1 hd];cases d<;>first|rfl|exact absurd rfl (hd _)
def qX(h1:G a (enStart L (.fn a [] []::ds)) [w]=(.ret d,[w'])):wW L G a w ds=some (d,w'):=by unfold wW;rw[h1]
end
end PD
namespace G
open PySem PySem.Spec PyProof.Rows L2 PD PySem.Builtin PySem.Builtin.Str PySem.StrLaws
abbrev blank:Str:=⟨#[32]⟩
def yY:(Str.ofString " ")=blank:=by decide +kernel
def mkS(l:Ab Nat):Str:=⟨l.toArray⟩
def cZ(l:Ab Nat):(mkS l).cps.toList=l:=by simp[mkS]
def oO{a b:Str}(h:a.cps.toList=b.cps.toList):a=b:=ext_toList h
def Z4Y(s:Str):mkS s.cps.toList=s:=oO (by rw[cZ])
def mC(c:Nat):Nat->Ab Nat->Ab Nat
 |_,[]=>[]
 |i,x::xs=>if x=c then i::mC c (i+1) xs else mC c (i+1) xs
def cX(c:Nat):Ab Nat->Ab (Ab Nat)
 |[]=>[[]]
 |x::xs=>if x=c then[]::cX c xs else match cX c xs with
  |h::t=>(x::h)::t
  |[]=>[[x]]
theorem lV(c:Nat):∀l,∃h t,cX c l=h::t
 |[]=>⟨[],[],rfl⟩
 |x::xs=>by
  unfold cX;split
  .exact⟨_,_,rfl⟩
  .obtain⟨h,t,e⟩:=lV c xs;rw[e];exact⟨_,_,rfl⟩
theorem xM(x:Str)(c:Nat):∀(l:Ab Nat) (i:Nat) (st:Ae Nat×Nat),x.cps.toList.drop i=l->st.snd<=i->st.fst.size<=i ->
  (forIn (List.range' i (l.length+1)) st (occBody x ⟨#[c]⟩ x.length (x.length+1))).run.fst.toList=st.fst.toList++mC c i l
 |[],i,st,hd,hs,hz=>by
  have b:x.length<=i:=by
   have n:x.cps.size-i=0:=by simpa using congrArg List.length hd
   show x.cps.size<=i;omega
  rw[show List.range' i (([]:Ab Nat).length+1)=[i] from rfl,Qa6]
  unfold occBody;rw[if_neg (by
   intro h;have:=(subAt_one x c i).mp ⟨h.1.2,h.2⟩;rw[Qas (by simpa[Str.length]using b)]at this;cases this)]
  simp[mC]
 |y::ys,i,st,hd,hs,hz=>by
  have f:x.cps.toList[i]?=some y:=by
   have:=congrArg (λl=>l[0]?) hd;simpa using this
  have hi:i<x.length:=by
   have:=(Qac.mp f).1;simpa[Str.length]using this
  have a:x.cps.toList.drop (i+1)=ys:=by
   rw[<- List.drop_drop,hd];rfl
  rw[show List.range' i ((y::ys).length+1)=i::List.range' (i+1) (ys.length+1) from rfl,Qa6]
  unfold occBody;by_cases hc:y=c
  .subst hc;have h1:=(subAt_one x y i).mpr f;rw[if_pos ⟨⟨⟨by omega,hs⟩,h1.1⟩,h1.2⟩];have j:=xM x y ys (i+1) (st.fst.push i,i+(⟨#[y]⟩:Str).length) a (by simp[Str.length]) (by simp;omega);simp only[mC,Rl];refine Eq.trans j ?_;simp
  .rw[if_neg (by
    intro h;have:=(subAt_one x c i).mp ⟨h.1.2,h.2⟩;rw[f]at this;exact hc (QaG this))]
   have j:=xM x c ys (i+1) (st.fst,st.snd) a (by simp only;omega) (by simp only;omega);simp only[mC,hc,Rm];exact j
def Z7g(x:Str)(c:Nat):occurrences x ⟨#[c]⟩ 0 x.length (x.length+1)=mC c 0 x.cps.toList:=by
 rw[occ_eq];have h:=xM x c x.cps.toList 0 (#[],0) (by simp) (Qap _) (by simp);have e:x.cps.toList.length+1=x.length+1-0:=by simp[Str.length]
 rw[e]at h;simpa using h
theorem nQ(x:Str)(c:Nat):∀(l:Ab Nat) (a b:Nat),a<=b->x.cps.toList.drop b=l ->
  ∃h t,cX c l=h::t/\partsFrom x 1 a (mC c b l)=mkS ((x.cps.toList.drop a).take (b-a)++h)::t.map mkS
 |[],a,b,hab,hd=>by
  refine⟨[],[],rfl,?_⟩;show[strSub x a x.length]=_;simp only[QaV,QaP];congr 1;apply oO;rw[strSub_toList,cZ];have q:x.cps.size-b=0:=by simpa using congrArg List.length hd
  have o:x.cps.size<=b:=by omega
  rw[Qbf (by simp[Str.length]),Qbf (by simp;omega)]
 |y::ys,a,b,hab,hd=>by
  have n:x.cps.toList[b]?=some y:=by
   have:=congrArg (λl=>l[0]?) hd;simpa using this
  have f:x.cps.toList.drop (b+1)=ys:=by rw[<- List.drop_drop,hd];rfl
  by_cases hc:y=c
  .subst hc;obtain⟨h,t,i,j⟩:=nQ x y ys (b+1) (b+1) (Qap _) f;refine⟨[],cX y ys,by simp[cX],?_⟩;simp only[mC,Rl,partsFrom];rw[j,i];simp only[Nat.sub_self,List.take_zero,Qbq,QaP,Qat];congr 1;apply oO;rw[strSub_toList,cZ]
  .obtain⟨h,t,i,j⟩:=nQ x c ys a (b+1) (by omega) f;refine⟨y::h,t,by simp[cX,hc,i],?_⟩;simp only[mC,hc,Rm];rw[j];congr 2;have r:b<x.cps.toList.length:=(Qac.mp n).1;have p:(x.cps.toList.drop a).take (b+1-a)=(x.cps.toList.drop a).take (b-a)++[y]:=by
    rw[show b+1-a=(b-a)+1 by omega];refine gJ ?_;rw[List.getElem?_drop,show a+(b-a)=b by omega];exact n
   rw[p];simp
theorem B4:∀{l:Ab Nat}{i:Nat},mC c i l=[]->cX c l=[l]
 |[],i,_=>rfl
 |x::xs,i,h=>by
  unfold mC at h;split at h
  .cases h
  .rename_i a;unfold cX;rw[if_neg a,B4 h]
def Z2h(x:Str)(c:Nat)(j:x.cps.all (· < 256)=true)(hc:c<256):jD x ⟨#[c]⟩=(cX c x.cps.toList).map mkS:=by
 unfold jD;rw[Z7g];have l:¬(Builtin.Str.strKind x<Builtin.Str.strKind ⟨#[c]⟩):=by
  unfold Builtin.Str.strKind;rw[j];simp[hc]
 by_cases a:x.length<(⟨#[c]⟩:Str).length
 .have b:x.cps.toList=[]:=by
   have:x.length=0:=by simp[Str.length]at a ⊢;omega
   apply Qbd;simpa[Str.length]using this
  rw[if_pos (by simp[a]),b];simp only[cX,Qat,QaV];congr 1;apply oO;rw[b,cZ]
 .rw[if_neg (by simp[a,l])];by_cases h1:(mC c 0 x.cps.toList).isEmpty=true
  .rw[if_pos h1,B4 (by simpa using h1)];simp[Z4Y]
  .rw[if_neg h1,partsBetween_eq];obtain⟨h,t,f,i⟩:=nQ x c x.cps.toList 0 0 (Qap _) (by simp);show partsFrom x 1 0 _=_;rw[i,f];simp
def lG(w:Ab Nat)(ws:Ab (Ab Nat)):Ab Nat:=w++ws.flatMap λv=>32::v
theorem yI:∀(ws:Ab Str) (a:Ae Nat),((ws.foldl (λacc p=>acc++blank.cps++p.cps) a).toList:Ab Nat)=lG a.toList (ws.map λs=>s.cps.toList)
 |[],a=>by simp[lG]
 |w::ws,a=>by
  rw[List.foldl_cons,yI ws];simp[lG]
def Z30(w:Str)(ws:Ab Str):Txt.join blank (w::ws)=mkS (lG w.cps.toList (ws.map λs=>s.cps.toList)):=by
 apply oO;rw[cZ];show((List.drop 1 (w::ws)).foldl (λacc p=>acc++blank.cps++p.cps) ((w::ws).headD Str.empty).cps).toList=_;exact yI ws w.cps
theorem A7:∀{w:Ab Nat},c∉w->cX c w=[w]
 |[],_=>rfl
 |x::xs,h=>by
  have h1:x≠c:=λe=>h (by simp[e]);unfold cX;rw[if_neg h1,A7 λz=>h (Qaa _ z)]
theorem wQ:∀{w:Ab Nat},c∉w->cX c (w++c::r)=w::cX c r
 |[],_=>by simp[cX]
 |x::xs,h=>by
  have h1:x≠c:=λe=>h (by simp[e]);have a:=wQ (r:=r) λz=>h (Qaa _ z);show cX c (x::(xs++c::r))=_;rw[cX,if_neg h1,a]
theorem uQ:∀{w:Ab Nat}{ws:Ab (Ab Nat)},32∉w->(∀v∈ws,32∉v)->cX 32 (lG w ws)=w::ws
 |w,[],h,_=>by simp[lG,A7 h]
 |w,v::vs,h,hs=>by
  have a:=uQ (w:=v) (ws:=vs) (hs v Qai) λu hu=>hs u (Qaa _ hu);have e:lG w (v::vs)=w++32::lG v vs:=by simp[lG]
  rw[e,wQ h,a]
def Wd(s:Str):Prop:=∀c∈s.cps.toList,c<128/\c≠32
instance (s:Str):Decidable (Wd s):=inferInstanceAs (Decidable (∀c∈s.cps.toList,c<128/\c≠32))
def Z7k(i:Int):Str:=Str.ofString (toString i)
def cF(m:Nat):Ab Nat:=(Nat.toDigits 10 m).map Char.toNat
def Z2O(m:Nat):(Z7k (m:Int)).cps.toList=cF m:=PySem.W.KIN.signs_num m
end G
namespace PD
open PySem PySem.Spec PyProof.Rows L2
abbrev fMo:=fI2 (λ_ j=>0<j) (λi j=>.int (i%j))
abbrev fDv:=fI2 dD (λi j=>.int (i/j))
abbrev fAd:=fI0 (λi j=>.int (i+j))
abbrev fSu:=fI0 (λi j=>.int (i-j))
abbrev fMu:=fI2 IntMulOk (λi j=>.int (i*j))
abbrev fSh:=fI2 jO (λi j=>.int (i*2^j.toNat))
abbrev fPw:=fI2 Z1d (λi j=>.int (i^j.toNat))
abbrev kI(n:Int):=fC (.int n)
abbrev kS(x:Str):=fC (.str x)
abbrev fX(a:Nat)(n:Int):=fIx (aD a) (kI n)
abbrev oF(d:D):Aa (Bool×D):=some (false,d)
abbrev oT(d:D):Aa (Bool×D):=some (true,d)
end PD
set_option maxHeartbeats 0
namespace G
open PySem PySem.Spec PyProof.Rows L2 PD
def top(i:Nat):Stmt:=PySem.Challenge.pw_stuckwire_k61_desk_gives.main.body.getD i (.Pass ⟨0,0,0,0⟩)
abbrev Z6q:Stmt:=top 90
abbrev J2:Stmt:=top 96
abbrev Z2r:Stmt:=top 95
abbrev Z6r:Stmt:=top 85
abbrev zK:Stmt:=top 86
abbrev Z2o:Stmt:=top 87
abbrev wT:Stmt:=top 88
abbrev R4:Stmt:=top 12
abbrev G5:Stmt:=top 24
abbrev J4:Stmt:=top 73
abbrev zJ:Stmt:=top 30
abbrev R7:Stmt:=top 28
abbrev Z2w:Stmt:=top 6
abbrev J5:Stmt:=top 13
abbrev G9:Stmt:=top 11
abbrev Z2n:Stmt:=top 10
abbrev Z6t:Stmt:=top 9
abbrev J6:Stmt:=top 7
abbrev wU:Stmt:=top 8
abbrev Z44:Stmt:=top 4
abbrev G8:Stmt:=top 5
abbrev Z0e:Stmt:=top 27
abbrev Z2m:Stmt:=top 26
abbrev vI:Stmt:=top 29
abbrev zI:Stmt:=top 71
abbrev J3:Stmt:=top 74
abbrev Z0k:Stmt:=top 2
abbrev Z0h:Stmt:=top 3
abbrev G7:Stmt:=top 70
abbrev Z4c:Stmt:=top 69
abbrev R6:Stmt:=top 57
abbrev vH:Stmt:=top 56
abbrev Z0g:Stmt:=top 53
abbrev Q9:Stmt:=top 55
abbrev Z0f:Stmt:=top 54
abbrev Z8E:Stmt:=top 52
abbrev vJ:Stmt:=top 61
abbrev Z0j:Stmt:=top 66
abbrev R0:Stmt:=top 64
abbrev sT:Stmt:=top 63
abbrev zH:Stmt:=top 60
abbrev Z87:Stmt:=N1 (top 68) 1
abbrev Z48:Stmt:=top 94
abbrev R5:Stmt:=top 89
abbrev Z2p:Stmt:=top 97
abbrev Z2v:Stmt:=top 98
abbrev Z8F:Stmt:=top 78
abbrev Z2q:Stmt:=top 79
abbrev Z2t:Stmt:=top 80
abbrev Z2s:Stmt:=top 84
abbrev Z4a:Stmt:=top 82
abbrev Z49:Stmt:=top 81
abbrev Z2u:Stmt:=top 83
abbrev zL:Stmt:=top 93
abbrev Z89:Stmt:=top 99
abbrev kB:Stmt:=N1 (top 1) 0
abbrev nK:Stmt:=N1 (top 68) 0
def fR(C:Af):Ab D->Aa D:=λds=>match ds with
 |[i,r,o]=>match (aZ (aD 1)) [none,some (false,i),some (false,r),some (false,o)],(cT [] (fZ (aD 2)) fTT (fB1 jN (aA (aD 0) aF))) [none,some (false,i),some (false,r),some (false,o)],(fB1 mH (aA (aD 3) aF)) [none,some (false,i),some (false,r),some (false,o)] with
  |some a,some b,some c=>some (.obj C ["ins","rows","outs"] [a,b,c])
  |_,_,_=>none
 |_=>none
def xW(C CD:Af):Ab D->Aa D:=λds=>match ds with
 |[]=>match (fB1 (fR C) (aA (kI 0) (aA (cW (aA (fT (aA (kS "fix") (aA (kI 0) aF))) aF)) (aA (cW (aA (kI 0) aF)) aF)))) [none] with
  |some a=>some (.obj CD ["circuit"] [a])
  |_=>none
 |_=>none
def N6(C:Af):En->Res :=
  (aL (rIf (fOr (fBI (λi j=>decide (i<j)) (aD 1) (fX 0 0)) (fEq (fIx (fIx (fX 0 1) (fSu (aD 1) (fX 0 0))) (kI 0)) (kS "fix"))) (bA (cW aF)) aX)
  (bA (fB1 mH (aA (fSl (fIx (fX 0 1) (fSu (aD 1) (fX 0 0))) (fP (kI 1)) fE) aF))))
def rQ(C:Af):Ab D->Aa D:=runF 2 (N6 C)
def mY(C:Af):En->Res :=
  (aL (aW 2 (fAd (fX 0 0) (fB1 bG (aA (fX 0 1) aF))))
  (aL (aW 3 (fMo (aD 1) (aD 2)))
  (aL (rIf (fEq (fMo (fDv (aD 1) (kI 128)) (kI 8)) (kI 0)) (aW 3 (fAd (aD 2) (fMu (fMo (fDv (aD 1) (kI 1024)) (kI 2)) (fPw (kI 10) (kI 8))))) aX)
  (aL (rIf (fEq (fMo (fDv (aD 1) (kI 256)) (kI 2)) (kI 0)) (bA (fT (aA (kS "wire") (aA (aZ (aD 3)) (aA (fMo (fDv (aD 1) (kI 512)) (kI 2)) aF))))) aX)
  (aL (aW 4 (cW (aA (kI 0) aF)))
  (aL (rIf (fBI (λi j=>decide (i<j)) (aD 3) (aD 2)) (iK 4 4 (aJ (rQ C) [] (aA (aD 0) (aA (aD 3) aF)))) aX)
  (aL (aW 5 (fMo (fDv (aD 1) (kI 1024)) (fB1 bG (aA (aD 4) aF))))
  (bA (fT (aA (kS "leg") (aA (aZ (aD 3)) (aA (aZ (aD 5)) (aA (fMo (fDv (aD 1) (kI 4096)) (kI 2)) aF)))))))))))))
def jV(C:Af):Ab D->Aa D:=runF 6 (mY C)
def uB(C:Af):En->Res :=
  (aL (iY [] (sB1 fU (aA (X7 (aD 0)) aF)) (gtN 1) (rIf (fEq (fMo (fDv (aD 0) (fSh (kI 1) (aD 1))) (kI 2)) (kI 1)) (bA (fB1 pL (aA (aD 1) aF))) aX))
  (bA (kS "none")))
def tO(C:Af):Ab D->Aa D:=runF 2 (uB C)
def Z1R(C:Af):En->Res :=
  (aL (rIf (iJ (oH true (aD 3)) (fEq (Z0Z (aD 3) fE (fP (kI 3))) (fT (aA (kS "leg") (aA (aD 4) (aA (aD 2) aF)))))) (bA (fMu (aD 5) (fX 3 3))) aX)
  (bA (aZ (fIx (aD 0) (fIx (aD 1) (fAd (aD 2) (kI 1)))))))
def wB(C:Af):Ab D->Aa D:=runF 6 (Z1R C)
def iQ(C:Af):En->Res :=
  (aL (rIf (fEq (fX 1 0) (kS "fix")) (bA (fMu (aD 4) (fX 1 1))) aX)
  (aL (aW 5 (aJ (wB C) [] (aA (aD 0) (aA (aD 1) (aA (kI 0) (aA (aD 2) (aA (aD 3) (aA (aD 4) aF))))))))
  (aL (rIf (fEq (fX 1 0) (kS "not")) (bA (fSu (aD 4) (aD 5))) aX)
  (aL (aW 6 (aJ (wB C) [] (aA (aD 0) (aA (aD 1) (aA (kI 1) (aA (aD 2) (aA (aD 3) (aA (aD 4) aF))))))))
  (aL (rIf (fEq (fX 1 0) (kS "and")) (bA (fI0 (λi j=>.int (Builtin.bitAnd i j)) (aD 5) (aD 6))) aX)
  (aL (rIf (fEq (fX 1 0) (kS "or")) (bA (fI0 (λi j=>.int (Builtin.bitOr i j)) (aD 5) (aD 6))) aX)
  (bA (fSu (fI0 (λi j=>.int (Builtin.bitOr i j)) (aD 5) (aD 6)) (fI0 (λi j=>.int (Builtin.bitAnd i j)) (aD 5) (aD 6))))))))))
def eZ(C:Af):Ab D->Aa D:=runF 7 (iQ C)
def C7(C:Af):En->Res :=
  (aL (Z4m [0] (gtT [2,3,4,5]) (aD 0))
  (aL (aW 6 (fSu (fSh (kI 1) (fSh (kI 1) (aD 2))) (kI 1)))
  (aL (aW 7 (cW aF))
  (aL (iY [] (sB1 fU (aA (fAd (aD 2) (fB1 bG (aA (aD 3) aF))) aF)) (gtN 8) (rIf (iJ (oH true (aD 1)) (fEq (Z0Z (aD 1) fE (fP (kI 2))) (fT (aA (kS "wire") (aA (aD 8) aF))))) (iA 7 (fMu (aD 6) (fX 1 2))) (rIf (fBI (λi j=>decide (i<j)) (aD 8) (aD 2)) (iA 7 (aZ (fIx (aD 5) (aD 8)))) (iA 7 (aJ (eZ C) [] (aA (aD 7) (aA (fIx (aD 3) (fSu (aD 8) (aD 2))) (aA (aD 1) (aA (aD 8) (aA (aD 6) aF))))))))))
  (kC 7)))))
def tN(C:Af):Ab D->Aa D:=runF 9 (C7 C)
def oB(C:Af):En->Res :=
  (aL (aW 2 (aJ (tN C) [] (aA (aD 0) (aA (aD 1) aF))))
  (bA (cT [2] (fZ (fX 0 2)) fTT (aZ (fIx (aD 1) (aD 0))))))
def fK(C:Af):Ab D->Aa D:=runF 3 (oB C)
def lJ(C:Af):En->Res :=
  (aL (rIf (fEq (fX 0 0) (kS "fix")) (bA (cW aF)) aX)
  (bA (fB1 mH (aA (fSl (aD 0) (fP (kI 1)) fE) aF))))
def eQ(C:Af):Ab D->Aa D:=runF 1 (lJ C)
def mW(C:Af):En->Res :=
  (aL (rIf (fBI (λi j=>decide (i<j)) (aD 1) (fL C "ins" (aD 0))) (bA (cW aF)) aX)
  (bA (aJ (eQ C) [] (aA (fIx (fL C "rows" (aD 0)) (fSu (aD 1) (fL C "ins" (aD 0)))) aF))))
def jU(C:Af):Ab D->Aa D:=runF 2 (mW C)
def N8(C CW:Af):En->Res :=
  (aL (nL (rIf (oH false (aD 1)) Z8e aX))
  (aL (rIf (fBI (λi j=>decide (j<=i)) (fX 1 1) (fAd (fL C "ins" (aD 0)) (fB1 bG (aA (fL C "rows" (aD 0)) aF)))) (nM CW) aX)
  (rIf (iJ (fEq (fX 1 0) (kS "leg")) (fBI (λi j=>decide (j<=i)) (fX 1 2) (fB1 bG (aA (aJ (jU C) [] (aA (aD 0) (aA (fX 1 1) aF))) aF)))) (nM CW) aX)))
def dZ(C CW:Af):Ab D->Aa D:=runF 2 (N8 C CW)
def pU(C:Af):En->Res :=
  (aL (rIf (fEq (aD 0) (kI 0)) (bA (fC .non)) aX)
  (bA (fSu (X7 (fI0 (λi j=>.int (Builtin.bitAnd i j)) (aD 0) (Z7P (aD 0)))) (kI 1))))
def iP(C:Af):Ab D->Aa D:=runF 1 (pU C)
def uZ(C:Af):En->Res :=
  (aL (aW 2 (kI 0))
  (aL (iY [0,1] (sB1 Z80 (aA (aD 0) (aA (aD 1) aF))) (gtT [3,4]) (aW 2 (fI0 (λi j=>.int (Builtin.bitOr i j)) (aD 2) (fI0 (λi j=>.int (Builtin.bitXor i j)) (aD 3) (aD 4)))))
  (bA (aZ (aD 2)))))
def nV(C:Af):Ab D->Aa D:=runF 5 (uZ C)
def Z38(C:Af):En->Res :=
  (bA (cT [1] (fZ (fL C "outs" (aD 0))) fTT (aZ (fIx (aD 1) (aD 0)))))
def pD(C:Af):Ab D->Aa D:=runF 2 (Z38 C)
def jW(C:Af):En->Res :=
  (aL (aW 3 (aZ (fX 0 0)))
  (aL (rIf (fEq (aD 3) (kS "fix")) (bA (fMu (aD 2) (fX 0 1))) aX)
  (aL (rIf (fEq (aD 3) (kS "not")) (bA (fI0 (λi j=>.int (Builtin.bitXor i j)) (aD 2) (fX 1 0))) aX)
  (aL (rIf (fEq (aD 3) (kS "and")) (bA (fI0 (λi j=>.int (Builtin.bitAnd i j)) (fX 1 0) (fX 1 1))) aX)
  (aL (rIf (fEq (aD 3) (kS "or")) (bA (fI0 (λi j=>.int (Builtin.bitOr i j)) (fX 1 0) (fX 1 1))) aX)
  (bA (fI0 (λi j=>.int (Builtin.bitXor i j)) (fX 1 0) (fX 1 1))))))))
def eS(C:Af):Ab D->Aa D:=runF 4 (jW C)
def hJ(C:Af):En->Res :=
  (aL (aW 5 (cT [2] (fZ (aJ (eQ C) [] (aA (aD 0) aF))) fTT (aZ (fIx (aD 1) (aD 0)))))
  (aL (rIf (iJ (oH true (aD 4)) (iJ (fEq (fX 4 0) (kS "leg")) (fEq (fX 4 1) (aD 1)))) (T5 5 (fX 4 2) (fMu (aD 3) (fX 4 3))) aX)
  (kC 5)))
def dY(C:Af):Ab D->Aa D:=runF 6 (hJ C)
def mE(C:Af):En->Res :=
  (aL (rIf (iJ (oH true (aD 3)) (iJ (fEq (fX 3 0) (kS "wire")) (fEq (fX 3 1) (aD 1)))) (bA (fMu (aD 2) (fX 3 2))) aX)
  (bA (aZ (aD 0))))
def fQ(C:Af):Ab D->Aa D:=runF 4 (mE C)
def Z1S(C:Af):En->Res :=
  (aL (aW 4 (cW aF))
  (aL (iY [1] (fZ (aD 1)) (gtN 5) (iA 4 (aJ (fQ C) [] (aA (aD 5) (aA (fB1 bG (aA (aD 4) aF)) (aA (aD 2) (aA (aD 3) aF)))))))
  (aL (iY [0] (fZ (fL C "rows" (aD 0))) (gtN 6) (aL (aW 7 (fB1 bG (aA (aD 4) aF)))
  (aL (aW 8 (aJ (dY C) [] (aA (aD 6) (aA (aD 7) (aA (aD 4) (aA (aD 2) (aA (aD 3) aF)))))))
  (iA 4 (aJ (fQ C) [] (aA (aJ (eS C) [] (aA (aD 6) (aA (aD 8) (aA (aD 2) aF)))) (aA (aD 7) (aA (aD 2) (aA (aD 3) aF)))))))))
  (kC 4))))
def wC(C:Af):Ab D->Aa D:=runF 9 (Z1S C)
def rT(C:Af):En->Res :=
  (bA (fSu (fSh (kI 1) (fSh (kI 1) (aD 0))) (kI 1)))
def hG(C:Af):Ab D->Aa D:=runF 1 (rT C)
def oE(C:Af):En->Res :=
  (aL (aW 1 (cW aF))
  (aL (iY [] (sB1 fU (aA (aD 0) aF)) (gtN 2) (aL (aW 3 (fSh (kI 1) (aD 2)))
  (aL (aW 1 (cT [3] (fZ (aD 1)) fTT (fI0 (λi j=>.int (Builtin.bitOr i j)) (aD 0) (fSh (aD 0) (aD 1)))))
  (iA 1 (fSh (aJ (hG C) [] (aA (aD 2) aF)) (aD 3))))))
  (kC 1)))
def kN(C:Af):Ab D->Aa D:=runF 4 (oE C)
def Z5j(C:Af):En->Res :=
  (bA (aJ (wC C) [] (aA (aD 0) (aA (aJ (kN C) [] (aA (fL C "ins" (aD 0)) aF)) (aA (aJ (hG C) [] (aA (fL C "ins" (aD 0)) aF)) (aA (aD 1) aF))))))
def rP(C:Af):Ab D->Aa D:=runF 2 (Z5j C)
def N5(C:Af):En->Res :=
  (bA (aJ (pD C) [] (aA (aD 0) (aA (aJ (rP C) [] (aA (aD 0) (aA (aD 1) aF))) aF))))
def fN(C:Af):Ab D->Aa D:=runF 2 (N5 C)
def yE(C:Af):En->Res :=
  (aL (aW 2 (aJ (fN C) [.non] (aA (aD 0) aF)))
  (bA (cT [2,0] (fZ (aD 1)) fTT (aJ (nV C) [] (aA (aD 1) (aA (aJ (fN C) [] (aA (aD 2) (aA (aD 0) aF))) aF))))))
def kK(C:Af):Ab D->Aa D:=runF 3 (yE C)
def Z37(C:Af):En->Res :=
  (bA (aZ (fIx (aJ (kK C) [] (aA (aD 0) (aA (cW (aA (aZ (aD 1)) aF)) aF))) (kI 0))))
def tM(C:Af):Ab D->Aa D:=runF 2 (Z37 C)
def vN(C:Af):En->Res :=
  (bA (aJ (iP C) [] (aA (aJ (tM C) [] (aA (aD 0) (aA (aD 1) aF))) aF)))
def jK(C:Af):Ab D->Aa D:=runF 2 (vN C)
def lP(C CW:Af):En->Res :=
  (aL (rOr fD (aJ (dZ C CW) [] (aA (aD 0) (aA (aD 1) aF))) (rC (fNX (aJ (dZ C CW) [] (aA (aD 0) (aA (aD 1) aF))))))
  (nL (aL (aW 2 (aJ (jK C) [] (aA (aD 0) (aA (aD 1) aF))))
  (bA (fIf (oH false (aD 2)) (kS "none") (fB1 pL (aA (aD 2) aF)))))))
def gC(C CW:Af):Ab D->Aa D:=runF 3 (lP C CW)
def N7(C CW:Af):En->Res :=
  (rIf (kT (fEq (fI2 (λ_ j=>0<=j) (λi j=>.int (i/2^j.toNat)) (aD 1) (fL C "ins" (aD 0))) (kI 0))) (nM CW) aX)
def gZ(C CW:Af):Ab D->Aa D:=runF 2 (N7 C CW)
def yF(C:Af):En->Res :=
  (aL (aW 3 (cT [1] (sB1 fU (aA (fL C "ins" (aD 0)) aF)) fTT (fI0 (λi j=>.int (Builtin.bitAnd i j)) (fI2 (λ_ j=>0<=j) (λi j=>.int (i/2^j.toNat)) (aD 1) (aD 0)) (kI 1))))
  (bA (aJ (wC C) [] (aA (aD 0) (aA (aD 3) (aA (kI 1) (aA (aD 2) aF)))))))
def kO(C:Af):Ab D->Aa D:=runF 4 (yF C)
def Z0U(C:Af):En->Res :=
  (bA (aJ (pD C) [] (aA (aD 0) (aA (aJ (kO C) [] (aA (aD 0) (aA (aD 1) (aA (aD 2) aF)))) aF))))
def kM(C:Af):Ab D->Aa D:=runF 3 (Z0U C)
def mX(C CW:Af):En->Res :=
  (aL (rOr fD (aJ (dZ C CW) [] (aA (aD 0) (aA (aD 1) aF))) (rC (fNX (aJ (dZ C CW) [] (aA (aD 0) (aA (aD 1) aF))))))
  (aL (rOr fD (aJ (gZ C CW) [] (aA (aD 0) (aA (aD 2) aF))) (rC (fNX (aJ (gZ C CW) [] (aA (aD 0) (aA (aD 2) aF))))))
  (nL (bA (nB (kS " ") (cT [] (fZ (aJ (kM C) [] (aA (aD 0) (aA (aD 2) (aA (aD 1) aF))))) fTT (fB1 pL (aA (aD 0) aF))))))))
def gY(C CW:Af):Ab D->Aa D:=runF 3 (mX C CW)
def oG(C CW:Af):En->Res :=
  (aL (rIf (fEq (fX 1 0) (kS "give")) (rOr fD (aJ (gY C CW) [] (aA (aD 0) (aA (fX 1 1) (aA (fX 1 2) aF)))) (bA (fNX (aJ (gY C CW) [] (aA (aD 0) (aA (fX 1 1) (aA (fX 1 2) aF))))))) aX)
  (aL (rIf (fEq (fX 1 0) (kS "tells")) (rOr fD (aJ (gC C CW) [] (aA (aD 0) (aA (fX 1 1) aF))) (bA (fNX (aJ (gC C CW) [] (aA (aD 0) (aA (fX 1 1) aF)))))) aX)
  (aL (rIf (fEq (fX 1 0) (kS "named")) (nL Z2B) aX)
  (nL (aL (rIf (fEq (fX 1 0) (kS "idle")) Z2B aX)
  Z2B)))))
def jB(C CW:Af):Ab D->Aa D:=runF 2 (oG C CW)
def oC(C:Af):En->Res :=
  (aL (rIf (fOr (fEq (aD 0) (kS "")) (fBI (λi j=>decide (j<i)) (fB1 bG (aA (aD 0) aF)) (kI 9))) (bA (fC (.bl false))) aX)
  (aL (rIf (iJ (fEq (fX 0 0) (kS "0")) (kT (fEq (aD 0) (kS "0")))) (bA (fC (.bl false))) aX)
  (bA (fB1 Z82 (aA (cT [] (X6 (aD 0)) fTT (kR (fIn (aD 0) (kS "0123456789")))) aF)))))
def gR(C:Af):Ab D->Aa D:=runF 1 (oC C)
def jL(C CE:Af):En->Res :=
  (aL (aW 2 (cW aF))
  (aL (iY [0] (fZ (aD 0)) (gtN 3) (aL (rIf (kT (fB (aJ (gR C) [] (aA (aD 3) aF)))) (nM CE) aX)
  (aL (aW 4 (fB1 F6 (aA (aD 3) aF)))
  (aL (rIf (fBI (λi j=>decide (j<=i)) (aD 4) (aD 1)) (nM CE) aX)
  (nL (iA 2 (aZ (aD 4))))))))
  (nL (kC 2))))
def bO(C CE:Af):Ab D->Aa D:=runF 5 (jL C CE)
def qJ(C CE:Af):En->Res :=
  (aL (aW 1 (mZ (aD 0) (fC (.str " "))))
  (aL (rIf (fOr (kT (fEq (fIx (aD 1) (fC (.int 0))) (fC (.str "ins")))) (kT (fEq (fB1 bG (aA (aD 1) aF)) (fC (.int 2))))) (nM CE) aX)
  (rOr fD (aJ (bO C CE) [] (aA (fSl (aD 1) (fP (fC (.int 1))) fE) (aA (fI0 (λi j=>.int (i+j)) (fC (.int 8)) (fC (.int 1))) aF))) (bA (aZ (fIx (fNX (aJ (bO C CE) [] (aA (fSl (aD 1) (fP (fC (.int 1))) fE) (aA (fI0 (λi j=>.int (i+j)) (fC (.int 8)) (fC (.int 1))) aF)))) (fC (.int 0))))))))
def gM(C CE:Af):Ab D->Aa D:=runF 2 (qJ C CE)
def nY(C CE:Af):En->Res :=
  (aL (aW 2 (mZ (aD 0) (fC (.str " "))))
  (aL (rIf (kT (fEq (fIx (aD 2) (fC (.int 0))) (fC (.str "outs")))) (nM CE) aX)
  (aL (rIf (fOr (fBI (λi j=>decide (i<j)) (fB1 bG (aA (aD 2) aF)) (fC (.int 2))) (fBI (λi j=>decide (j<i)) (fI0 (λi j=>.int (i-j)) (fB1 bG (aA (aD 2) aF)) (fC (.int 1))) (fC (.int 16)))) (nM CE) aX)
  (rOr fD (aJ (bO C CE) [] (aA (fSl (aD 2) (fP (fC (.int 1))) fE) (aA (aD 1) aF))) (bA (fNX (aJ (bO C CE) [] (aA (fSl (aD 2) (fP (fC (.int 1))) fE) (aA (aD 1) aF)))))))))
def jA(C CE:Af):Ab D->Aa D:=runF 3 (nY C CE)
def qI(C CE:Af):En->Res :=
  (aL (aW 2 (mZ (aD 0) (fC (.str " "))))
  (aL (aW 3 (aZ (fIx (aD 2) (fC (.int 0)))))
  (aL (rIf (kT (fEq (fB1 (F7 [("fix",1),("not",1),("and",2),("or",2),("xor",2)]) (aA (aD 3) aF)) (fI0 (λi j=>.int (i-j)) (fB1 bG (aA (aD 2) aF)) (fC (.int 1))))) (nM CE) aX)
  (aL (aW 4 (fIf (fEq (aD 3) (fC (.str "fix"))) (fC (.int 2)) (aZ (aD 1))))
  (rOr (xI (cW (aA (aZ (aD 3)) aF)) fD) (aJ (bO C CE) [] (aA (fSl (aD 2) (fP (fC (.int 1))) fE) (aA (aD 4) aF))) (bA (fB1 jN (aA (vO (cW (aA (aZ (aD 3)) aF)) (fNX (aJ (bO C CE) [] (aA (fSl (aD 2) (fP (fC (.int 1))) fE) (aA (aD 4) aF))))) aF))))))))
def kL(C CE:Af):Ab D->Aa D:=runF 5 (qI C CE)
def Z0T(C CE:Af):En->Res :=
  (aL (rIf (fBI (λi j=>decide (i<j)) (fB1 bG (aA (aD 0) aF)) (fC (.int 2))) (nM CE) aX)
  (aL (rIf (fBI (λi j=>decide (j<i)) (fI0 (λi j=>.int (i-j)) (fB1 bG (aA (aD 0) aF)) (fC (.int 2))) (fC (.int 60))) (nM CE) aX)
  (aL (rOr fD (aJ (gM C CE) [] (aA (fIx (aD 0) (fC (.int 0))) aF)) (aW 1 (fNX (aJ (gM C CE) [] (aA (fIx (aD 0) (fC (.int 0))) aF)))))
  (aL (aW 2 (cW aF))
  (aL (iY [] (fZ (fSl (aD 0) (fP (fC (.int 1))) (fP (fC (.int (-1)))))) (gtN 3) (rOr (Z4C 2) (aJ (kL C CE) [] (aA (aD 3) (aA (fI0 (λi j=>.int (i+j)) (aD 1) (fB1 bG (aA (aD 2) aF))) aF))) (iA 2 (fNX (aJ (kL C CE) [] (aA (aD 3) (aA (fI0 (λi j=>.int (i+j)) (aD 1) (fB1 bG (aA (aD 2) aF))) aF)))))))
  (rOr (xI (aD 1) (xI (aD 2) fD)) (aJ (jA C CE) [] (aA (fIx (aD 0) (fC (.int (-1)))) (aA (fI0 (λi j=>.int (i+j)) (aD 1) (fB1 bG (aA (aD 2) aF))) aF))) (bA (fB1 (fR C) (aA (aD 1) (aA (aD 2) (aA (fNX (aJ (jA C CE) [] (aA (fIx (aD 0) (fC (.int (-1)))) (aA (fI0 (λi j=>.int (i+j)) (aD 1) (fB1 bG (aA (aD 2) aF))) aF)))) aF)))))))))))
def qF(C CE:Af):Ab D->Aa D:=runF 4 (Z0T C CE)
def jM(C CL:Af):En->Res :=
  (aL (rIf (fEq (aD 0) (cW aF)) (nM CL) aX)
  (nL (aL (aW 1 (cW (aA (cW aF) aF)))
  (aL (iY [0] (fZ (aD 0)) (gtN 2) (rIf (fEq (aD 2) (kS "/")) (iA 1 (cW aF)) (oS 1 (fC (.int (-1))) (aZ (aD 2)))))
  (bA (cT [] (fZ (aD 1)) fTT (nB (kS " ") (aD 0))))))))
def dN(C CL:Af):Ab D->Aa D:=runF 3 (jM C CL)
def qL(C:Af):En->Res :=
  (aL (aW 1 (fIf (fEq (fB1 bG (aA (aD 0) aF)) (fC (.int 2))) (fC (.str "wire")) (fC (.str "leg"))))
  (bA (fB1 jN (aA (oJ (cW (aA (aZ (aD 1)) aF)) (aD 0)) aF))))
def eG(C:Af):Ab D->Aa D:=runF 2 (qL C)
def nZ(C CL:Af):En->Res :=
  (aL (rIf (kT (fB (aJ (gR C) [] (aA (aD 0) aF)))) (nM CL) aX)
  (nL (bA (fB1 F6 (aA (aD 0) aF)))))
def fJ(C CL:Af):Ab D->Aa D:=runF 1 (nZ C CL)
def iH(C CL:Af):En->Res :=
  (aL (aW 1 (fB1 (Z9 [([.inr "give",.inl 1],["number"]),([.inr "stuck",.inl 3],["number","bit","number"]),([.inr "leg",.inl 4],["number","bit","bit","number"]),([.inr "faults",.inl 0],[]),([.inr "idle",.inl 0],[]),([.inr "tells",.inl 2],["number","bit"]),([.inr "tells",.inl 3],["number","bit","bit"]),([.inr "lean",.inl 0],[])]) (aA (fT (aA (aZ (fX 0 0)) (aA (fSu (fB1 bG (aA (aD 0) aF)) (kI 1)) aF))) aF)))
  (aL (rIf (oH false (aD 1)) (nM CL) aX)
  (aL (aW 2 (cW aF))
  (aL (iY [1] (sB1 zC (aA (fSl (aD 0) (fP (kI 1)) fE) (aA (aD 1) aF))) (gtT [3,4]) (aL (rOr fD (aJ (fJ C CL) [] (aA (aD 3) aF)) (aW 5 (fNX (aJ (fJ C CL) [] (aA (aD 3) aF)))))
  (aL (rIf (iJ (fEq (aD 4) (kS "bit")) (fBI (λi j=>decide (j<i)) (aD 5) (kI 1))) (nM CL) aX)
  (nL (iA 2 (aZ (aD 5)))))))
  (nL (kC 2))))))
def dI(C CL:Af):Ab D->Aa D:=runF 6 (iH C CL)
def gD(C CL:Af):En->Res :=
  (aL (aW 1 (mZ (aD 0) (kS " ")))
  (aL (rIf (fIn (kS "") (aD 1)) (nM CL) aX)
  (aL (rIf (fEq (fX 1 0) (kS "new")) (rOr (xI (kS "new") fD) (aJ (dN C CL) [] (aA (fSl (aD 1) (fP (kI 1)) fE) aF)) (bA (fT (aA (kS "new") (aA (fNX (aJ (dN C CL) [] (aA (fSl (aD 1) (fP (kI 1)) fE) aF))) aF))))) aX)
  (aL (rIf (fEq (fX 1 0) (kS "named")) (nL Z2B) aX)
  (aL (rOr fD (aJ (dI C CL) [] (aA (aD 1) aF)) (aW 2 (fNX (aJ (dI C CL) [] (aA (aD 1) aF)))))
  (nL (aL (rIf (fEq (fX 1 0) (kS "give")) (bA (fT (aA (kS "give") (aA (fC .non) (aA (aZ (fX 2 0)) aF))))) aX)
  (aL (rIf (fOr (fEq (fX 1 0) (kS "stuck")) (fEq (fX 1 0) (kS "leg"))) (bA (fT (aA (kS "give") (aA (aJ (eG C) [] (aA (fSl (aD 2) fE (fP (fC (.int (-1))))) aF)) (aA (aZ (fIx (aD 2) (fC (.int (-1))))) aF))))) aX)
  (aL (rIf (fEq (fX 1 0) (kS "tells")) (bA (fT (aA (kS "tells") (aA (aJ (eG C) [] (aA (aD 2) aF)) aF)))) aX)
  (bA (fT (aA (aZ (fX 1 0)) aF))))))))))))
def bQ(C CL:Af):Ab D->Aa D:=runF 3 (gD C CL)
def W7(C CL CE CW CD:Af)(a:Af):En->Ab D->Res×Ab D :=
  (cD (rA (λenv _=>env) fD (aJ (bQ C CL) [] (aA (aD 1) aF)) (gS (aW 2 (fNX (aJ (bQ C CL) [] (aA (aD 1) aF))))))
  (cD (nF (yG (fEq (fIx (aD 2) (fC (.int 0))) (fC (.str "new")))) (cD (rA (λenv _=>env) fD (aJ (qF C CE) [] (aA (fIx (aD 2) (fC (.int 1))) aF)) (T7 CD a 0 "circuit" (gPl (fNX (aJ (qF C CE) [] (aA (fIx (aD 2) (fC (.int 1))) aF))))))
  (xR (gS (bA (fC (.str "ok")))))) (gS aX))
  (cD (nF (yG (fEq (fIx (aD 2) (fC (.int 0))) (fC (.str "lean")))) (cD (xR (gS Z2B))
  (xR (qY (gOp a (fB1 pL (aA (fB1 bG (aA (fL C "rows" (fL CD "circuit" (aD 0))) aF)) aF)))))) (gS aX))
  (rA (Z0x a) fD (aJ (jB C CW) [] (aA (fL CD "circuit" (aD 0)) (aA (aD 2) aF))) (qY (gOp a (fNX (aJ (jB C CW) [] (aA (fL CD "circuit" (aD 0)) (aA (aD 2) aF))))))))))
def uT(C CL CE CW CD:Af):Af->D->Ab D->Aa (D×D):=wW 3 (W7 C CL CE CW CD)
def oA(C CL CE CW CD:Af)(a:Af):En->Ab D->Res×Ab D :=
  (cD (gS (aW 2 (fC .non)))
  (cD (gS (aW 3 (fC .non)))
  (cD (xA a CD "say" [CL,CE,CW] 0 3 2 4 (uT C CL CE CW CD) (aA (aD 1) aF))
  (cD (gS (rIf (oH false (aD 2)) (bA (aZ (aD 3))) aX))
  (cD (gS (aW 5 (cW (aA (pJ [(CL,true),(CE,false),(CW,false)] (aD 2)) (aA (pJ [(CL,false),(CE,true),(CW,false)] (aD 2)) (aA (pJ [(CL,false),(CE,false),(CW,true)] (aD 2)) aF))))))
  (cD (gS (iK 5 5 (cW (aA (pJ [(CL,false),(CE,false),(CW,false)] (aD 2)) (aA (pJ [(CL,false),(CE,false),(CW,false)] (aD 2)) aF)))))
  (cD (gS (rIf (fOr (kT (fEq (fB1 bG (aA (cT [] (fZ (aD 5)) (fB (aD 0)) (aZ (aD 0))) aF)) (kI 1))) (kT (fB (pJ [(CL,true),(CE,true),(CW,true)] (aD 2))))) (bA (cW (aA (kS "none") aF))) aX))
  (gS (bA (cW (aA (aZ (fIx (cW (aA (kS "line") (aA (kS "circuit") (aA (kS "wire") (aA (kS "not told") (aA (kS "great") aF)))))) (Z7Q (aD 5) (fC (.bl true))))) aF)))))))))))
def eV(C CL CE CW CD:Af):Af->D->Ab D->Aa (D×D):=wW 6 (oA C CL CE CW CD)
def uY(C:Af):En->Res :=
  (aL (aW 2 (kI 0))
  (aL (iY [] (sB1 fU (aA (fB1 bG (aA (aD 0) aF)) aF)) (gtN 3) (aW 2 (fI0 (λi j=>.int (Builtin.bitOr i j)) (aD 2) (fSu (fI0 (λi j=>.int (Builtin.bitOr i j)) (fIx (aD 0) (aD 3)) (fIx (aD 1) (aD 3))) (fI0 (λi j=>.int (Builtin.bitAnd i j)) (fIx (aD 0) (aD 3)) (fIx (aD 1) (aD 3)))))))
  (bA (aZ (aD 2)))))
def nU(C:Af):Ab D->Aa D:=runF 4 (uY C)
def tZ(C:Af):En->Res :=
  (aL (rIf (fBI (λi j=>decide (j<=i)) (fX 1 1) (fAd (fX 0 0) (fB1 bG (aA (fX 0 1) aF)))) (bA (fC (.bl false))) aX)
  (bA (kR (fOr (fB (kR (fEq (fX 1 0) (kS "wire")))) (fB (fI0 (λi j=>.bl (decide (i<j))) (fX 1 2) (fB1 bG (aA (aJ (rQ C) [] (aA (aD 0) (aA (fX 1 1) aF))) aF))))))))
def iE(C:Af):Ab D->Aa D:=runF 2 (tZ C)
def uC(C CL CE CW CD:Af)(a:Af):En->Ab D->Res×Ab D :=
  (cD (gS (aW 3 (aJ (jV C) [] (aA (aD 1) (aA (aD 2) aF)))))
  (cD (gS (aW 4 (kR (iJ (fB (aJ (iE C) [] (aA (aD 1) (aA (aD 3) aF)))) (fB (kR (fOr (fB (kR (fEq (fIx (aD 3) (fC (.int 0))) (fC (.str "wire"))))) (fB (fI0 (λi j=>.bl (decide (i<j))) (fIx (aD 3) (fC (.int 2))) (fC (.int 2)))))))))))
  (cD (gS (aW 5 (fI2 (λ_ j=>0<j) (λi j=>.int (i%j)) (fI2 dD (λi j=>.int (i/j)) (aD 2) (fC (.int 64))) (fI2 jO (λi j=>.int (i*2^j.toNat)) (fC (.int 1)) (fIx (aD 1) (fC (.int 0)))))))
  (cD (gS (rIf (fEq (fI2 (λ_ j=>0<j) (λi j=>.int (i%j)) (fI2 dD (λi j=>.int (i/j)) (aD 2) (fC (.int 16384))) (fC (.int 8))) (fC (.int 0))) (aW 5 (fI0 (λi j=>.int (i+j)) (fI2 jO (λi j=>.int (i*2^j.toNat)) (fC (.int 1)) (fIx (aD 1) (fC (.int 0)))) (fI2 IntMulOk (λi j=>.int (i*j)) (fI2 (λ_ j=>0<j) (λi j=>.int (i%j)) (fI2 dD (λi j=>.int (i/j)) (aD 2) (fC (.int 131072))) (fC (.int 2))) (fI2 Z1d (λi j=>.int (i^j.toNat)) (fC (.int 10)) (fC (.int 6)))))) aX))
  (cD (gS (rIf (iJ (fEq (fIx (aD 3) (fC (.int 0))) (fC (.str "leg"))) (fBI (λi j=>decide (j<i)) (fIx (aD 3) (fC (.int 2))) (fC (.int 1)))) (aL (aW 3 (fT (aA (fC (.str "leg")) (aA (aZ (fIx (aD 3) (fC (.int 1)))) (aA (fC (.int 1)) (aA (aZ (fIx (aD 3) (fC (.int 3)))) aF))))))
  (aW 4 (aJ (iE C) [] (aA (aD 1) (aA (aD 3) aF))))) aX))
  (cD (gS (aW 6 (cT [] (fZ (fSl (aD 3) (fP (fC (.int 1))) fE)) fTT (fB1 pL (aA (aD 0) aF)))))
  (cD (nF (yG (fEq (fI2 (λ_ j=>0<j) (λi j=>.int (i%j)) (aD 2) (fC (.int 3))) (fC (.int 0)))) (cD (gS (aW 7 (cW (aA (fC (.str "wire")) aF))))
  (cD (gS (rIf (fB (aD 4)) (aW 7 (aJ (tO C) [] (aA (aJ (nU C) [] (aA (aJ (fK C) [] (aA (aD 1) (aA (fC .non) aF))) (aA (aJ (fK C) [] (aA (aD 1) (aA (aD 3) aF))) aF))) aF))) aX))
  (qY (gBl (gEq false (zQ [a] 0 (eV C CL CE CW CD) (aA (aD 0) (aA (nB (fC (.str " ")) (oJ (cW (aA (fC (.str "tells")) aF)) (aD 6))) aF))) (aD 7)))))) (gS aX))
  (cD (gS (aW 8 (nB (fC (.str " ")) (vO (oJ (cW (aA (aZ (fIx (cW (aA (fC (.str "stuck")) (aA (fC (.str "leg")) aF))) (fB1 P8 (aA (kR (fEq (fIx (aD 3) (fC (.int 0))) (fC (.str "leg")))) aF)))) aF)) (aD 6)) (cW (aA (fB1 pL (aA (aD 5) aF)) aF))))))
  (cD (gS (rIf (iJ (fEq (fI2 (λ_ j=>0<j) (λi j=>.int (i%j)) (aD 2) (fC (.int 3))) (fC (.int 1))) (fEq (fI2 (λ_ j=>0<j) (λi j=>.int (i%j)) (fI2 dD (λi j=>.int (i/j)) (aD 2) (fC (.int 8))) (fC (.int 2))) (fC (.int 0)))) (aL (aW 8 (D8 (fC (.str "give ")) (fB1 pL (aA (aD 5) aF))))
  (aL (aW 3 (fC .non))
  (aW 4 (fC (.bl true))))) aX))
  (cD (gS (aW 7 (cW (aA (fC (.str "wire")) aF))))
  (cD (gS (rIf (iJ (fB (aD 4)) (fBI (λi j=>decide (i<j)) (aD 5) (fI2 jO (λi j=>.int (i*2^j.toNat)) (fC (.int 1)) (fIx (aD 1) (fC (.int 0)))))) (aW 7 (nB (fC (.str " ")) (cT [5] (fZ (aJ (fK C) [] (aA (aD 1) (aA (aD 3) aF)))) fTT (fB1 pL (aA (fI2 (λ_ j=>0<j) (λi j=>.int (i%j)) (fI2 dD (λi j=>.int (i/j)) (aD 0) (fI2 jO (λi j=>.int (i*2^j.toNat)) (fC (.int 1)) (aD 1))) (fC (.int 2))) aF))))) aX))
  (qY (gBl (gEq false (zQ [a] 0 (eV C CL CE CW CD) (aA (aD 0) (aA (aD 8) aF))) (aD 7)))))))))))))))
def pC(C CL CE CW CD:Af):Af->D->Ab D->Aa (D×D):=wW 9 (uC C CL CE CW CD)
def Z5l(C:Af):En->Res :=
  (aL (rIf (fBI (λi j=>decide (i<j)) (aD 1) (fB1 bG (aA (aD 0) aF))) (bA (aZ (fIx (aD 0) (aD 1)))) aX)
  (bA (kI 0)))
def qG(C:Af):Ab D->Aa D:=runF 2 (Z5l C)
def uA(C:Af):En->Res :=
  (aL (rIf (fBI (λi j=>decide (j<=i)) (aD 0) (fPw (kI 10) (kI 40))) (bA (fMo (fDv (fSu (aD 0) (fPw (kI 10) (kI 40))) (fSh (kI 1) (fMu (kI 31) (fMo (aD 1) (kI 60))))) (fSh (kI 1) (kI 31)))) aX)
  (aL (aW 2 (fMo (fAd (fAd (fMu (aD 0) (kI 1103515245)) (fMu (fMu (kI 7919) (aD 1)) (aD 1))) (aD 1)) (kI 2147483647)))
  (aL (aW 2 (fMo (fMu (aD 2) (aD 2)) (kI 2147483629)))
  (bA (fMo (fMu (aD 2) (kI 69621)) (kI 2147483587))))))
def iF(C:Af):Ab D->Aa D:=runF 3 (uA C)
def C9(C:Af):En->Res :=
  (aL (aW 2 (cT [] (sB1 fU (aA (aD 1) aF)) fTT (fAd (fMu (aD 0) (aD 0)) (kI 1))))
  (aL (aW 3 (fSl (aD 0) fE (fP (kI 63))))
  (aL (iY [] (sB1 Z8 (aA (kI 2) (aA (fB1 bG (aA (aD 3) aF)) aF))) (gtN 4) (aL (aW 5 (fMo (aD 4) (aD 1)))
  (aL (aW 6 (fAd (fMu (fIx (aD 2) (aD 5)) (kI 31)) (aJ (iF C) [] (aA (fIx (aD 3) (aD 4)) (aA (aD 4) aF)))))
  (T5 2 (aD 5) (fMo (aD 6) (kI 2147483629))))))
  (kC 2))))
def tP(C:Af):Ab D->Aa D:=runF 7 (C9 C)
def C8(C:Af):En->Res :=
  (aL (aW 2 (kI 0))
  (aL (iY [] (sB1 fU (aA (fSh (kI 1) (aD 0)) aF)) (gtN 3) (rIf (fEq (fMo (fDv (aD 3) (fSh (kI 1) (aD 1))) (kI 2)) (kI 1)) (aW 2 (fAd (aD 2) (fSh (kI 1) (aD 3)))) aX))
  (bA (aZ (aD 2)))))
def mD(C:Af):Ab D->Aa D:=runF 4 (C8 C)
def W9(C:Af):En->Res :=
  (aL (aW 2 (cW (aA (fSu (aD 0) (kI 1)) aF)))
  (aL (iY [] (sB1 fU (aA (fMo (aD 1) (kI 4)) aF)) (gtN 3) (iA 2 (fMo (fDv (aD 1) (fAd (aD 3) (kI 4))) (aD 0))))
  (aL (rIf (fEq (fMo (fDv (aD 1) (kI 64)) (kI 16)) (kI 0)) (iK 2 2 (cT [0,1] (sB1 fU (aA (fSu (kI 16) (fB1 bG (aA (aD 2) aF))) aF)) fTT (fMo (fMu (aD 0) (aD 2)) (aD 1)))) aX)
  (aL (rIf (fEq (fMo (fDv (aD 1) (kI 1024)) (kI 3)) (kI 0)) (aW 2 (O1 (aD 2))) aX)
  (kC 2)))))
def xV(C:Af):Ab D->Aa D:=runF 4 (W9 C)
def W8(C:Af):En->Res :=
  (aL (aW 2 (cW aF))
  (aL (iY [1] (fZ (aD 1)) (gtN 3) (aL (aW 4 (fAd (aD 0) (fB1 bG (aA (aD 2) aF))))
  (aL (aW 5 (fSu (fSu (aD 4) (kI 1)) (fMo (fDv (aD 3) (kI 16)) (fB1 Z3A (aA (kI 1) (aA (fB1 Z81 (aA (aD 4) (aA (kI 5) aF))) aF))))))
  (aL (aW 6 (fSu (fSu (aD 4) (kI 1)) (fMo (fDv (aD 3) (kI 80)) (fB1 Z3A (aA (kI 1) (aA (aD 4) aF))))))
  (rIf (fOr (fEq (aD 4) (kI 0)) (fEq (fMo (aD 3) (kI 16)) (kI 0))) (iA 2 (fT (aA (kS "fix") (aA (fMo (fDv (aD 3) (kI 16)) (kI 2)) aF)))) (rIf (fBI (λi j=>decide (i<j)) (fMo (aD 3) (kI 16)) (kI 4)) (iA 2 (fT (aA (kS "not") (aA (aZ (aD 5)) aF)))) (iA 2 (fT (aA (aZ (fIx (cW (aA (kS "and") (aA (kS "or") (aA (kS "xor") (aA (kS "and") aF))))) (fMo (aD 3) (kI 4)))) (aA (aZ (aD 5)) (aA (aZ (aD 6)) aF)))))))))))
  (kC 2)))
def xU(C:Af):Ab D->Aa D:=runF 7 (W8 C)
def D4(C:Af):En->Res :=
  (aL (aW 1 (aJ (qG C) [] (aA (aD 0) (aA (kI 0) aF))))
  (aL (aW 2 (aZ (fIx (cW (aA (fMo (aD 1) (kI 4)) (aA (fMo (fDv (aD 1) (kI 4)) (kI 6)) aF))) (fB1 P8 (aA (kR (fEq (fMo (fDv (aD 1) (kI 36)) (kI 6)) (kI 5))) aF)))))
  (aL (aW 3 (aJ (tP C) [] (aA (aD 0) (aA (kI 11) aF))))
  (aL (aW 4 (aJ (xU C) [] (aA (aD 2) (aA (fSl (aD 3) fE (fP (fMo (aJ (qG C) [] (aA (aD 0) (aA (kI 1) aF))) (kI 11)))) aF))))
  (aL (rIf (fEq (fAd (aD 2) (fB1 bG (aA (aD 4) aF))) (kI 0)) (aW 4 (cW (aA (fT (aA (kS "fix") (aA (fMo (fDv (aD 1) (kI 216)) (kI 2)) aF))) aF))) aX)
  (aL (aW 5 (aJ (xV C) [] (aA (fAd (aD 2) (fB1 bG (aA (aD 4) aF))) (aA (fX 3 10) aF))))
  (T3 (.inl 2::(.inl 4::(.inl 5::(.inr (cT [2] (sB1 fU (aA (aD 2) aF)) fTT (aJ (mD C) [] (aA (aD 1) (aA (aD 0) aF))))::[])))))))))))
def tQ(C:Af):Ab D->Aa D:=runF 6 (D4 C)
def lQ(C:Af):En->Res :=
  (aL (aW 1 (cW (aA (fC (.str "new")) (aA (fC (.str "ins")) (aA (fB1 sJ (aA (fIx (aD 0) (fC (.int 0))) aF)) aF)))))
  (aL (iY [0] (fZ (fIx (aD 0) (fC (.int 1)))) (gtN 2) (aW 1 (vO (oJ (aD 1) (cW (aA (fC (.str "/")) aF))) (cT [] (fZ (aD 2)) fTT (fB1 sJ (aA (aD 0) aF))))))
  (bA (vO (oJ (aD 1) (cW (aA (fC (.str "/")) (aA (fC (.str "outs")) aF)))) (cT [] (fZ (fIx (aD 0) (fC (.int 2)))) fTT (fB1 sJ (aA (aD 0) aF)))))))
def lO(C:Af):Ab D->Aa D:=runF 3 (lQ C)
def Z5k(C CL CE CW CD:Af):En->Res :=
  λenv=>((cD (gS (aW 1 (aJ (tQ C) [] (aA (aD 0) aF))))
  (T8 2 (λ_=>xW C CD []) λa =>
  (cD (nF (gEq true (zQ [a] 0 (eV C CL CE CW CD) (aA (aD 2) (aA (nB (kS " ") (aJ (lO C) [] (aA (aD 1) aF))) aF))) (kS "ok")) (gS (bA (fC (.bl false)))) (gS aX))
  (cD (gS (aW 3 (vO (fSl (aD 0) (fP (kI 2)) (fP (kI 63))) (cW (aA (kI 1) (aA (kI 2) aF))))))
  (cD (T6 [] (sB1 fU (aA (fB1 bG (aA (aD 3) aF)) aF)) 4 (nF (Z7M (gB (zQ [a] 0 (pC C CL CE CW CD) (aA (aD 2) (aA (aD 1) (aA (aJ (iF C) [] (aA (fIx (aD 3) (aD 4)) (aA (fAd (aD 4) (kI 7)) aF))) aF)))))) (gS (bA (fC (.bl false)))) (gS aX)))
  (gS (bA (fC (.bl true))))))))) env []).1
def Z8j(C CL CE CW CD:Af):Ab D->Aa D:=runF 5 (Z5k C CL CE CW CD)
end G
namespace PD
open PySem PySem.Spec PyProof.Rows L2
theorem FunD.k{P:Aj}{w:Ak}{K:Frag}{mg:Str->Aa Ad}{base:Ah}{x qual:Str}{st:Stmt}{f:Af}{fd:FuncData}{N ps:Ab Str}{k n L:Nat}{g:En->Res}(F:FunD K x qual st f fd)(S:eT N ps (aR st))
  (h:∀{a:Ad}{A:Ai}{outer:Ab Env}{s:Ac}{H:Hp}{E:XK},N.Nodup->Room k (A.deeper (envOfC qual (aR st) s.heap.objs.size f a))->QSs (uH CX0 P w K mg base N qual (aR st) f a A outer s H E).nox (cB st) g) (b:ps.length=n:=by rfl) (i:N.length=L:=by rfl) :
  gT P w K mg base CX0 (k+1) f fd ps (spD K n (runF L g)):=F.ok S b i λ_ _ _ _ _ _ hr=>h S.nd hr
section
variable {X:Cx}{m1:Bool}{rs rs1:Ab Nat}{e:Ag}{es:Ab Ag}{f:En->Aa D}{fs:En->Aa (Ab D)}{pos p pos':Pos}{x:Str}
def Qc(c:bL X.prog X.w X.K X.mg X.base x dds k n F')(i:QA X m1 rs1 (e::es) fs)(h:Room k X.A:=by exact Room.mono (by assumption) (by first|decide|omega))(a:NArgs na fs:=by(repeat apply NArgs.cons);exact NArgs.nil)(j:na+dds.length=n:=by rfl)(f:Gl X x:=by rfl)
  (b:nDb x:=by decide) (he:sEa e es X.env:=by rfl) (hpl:bTa pos es X.env:=by rfl) :
  QE X true [] (.Call (.Name x p) (e::es) [] pos) (aJ F' dds fs):=Z90 c h a j i f b he hpl
def Qn(rs:Ab Nat):QA X false rs [] aF:=aV
def Qv(i:Nat){x:Str}(hs:∀r∈[i],r∈rs:=by simp)(b:X.N[i]?=some x:=by rfl)(f:Vis X.env.scope x:=by first|exact Or.inl rfl|exact Or.inr (Or.inl rfl)|exact Or.inr (Or.inr rfl))(hd:nDb x:=by decide)(a:(x==("__classdict__" : Str))=false:=by decide) :
  QE X false rs (.Name x pos) (aD i):=(aB i b f hd a).more hs
def Qs(i:Nat)(he:QE X true [] e f)(a:X.N.Nodup:=by assumption)(hi:X.N[i]?=some x:=by rfl)(h:Loc X.env.scope x:=by first|exact .inl rfl|exact .inr rfl)(hs:swapsWith e (some (.Name x pos')) pos.line X.env=pure false:=by rfl)(b:X.fn x=true\/X.env.scope.names.lookup x=some .local:=by first|exact .inl rfl|exact .inr rfl|assumption) :
  QS X (.Assign [.Name x pos'] e pos) (aW i f):=Z8U a hi h he hs b
def Qg(i:Nat)(a:X.N.Nodup:=by assumption)(hi:X.N[i]?=some x:=by rfl)(f:Loc X.env.scope x:=by first|exact .inl rfl|exact .inr rfl)(b:X.fn x=true\/X.env.scope.names.lookup x=some .local:=by first|exact .inl rfl|exact .inr rfl|assumption):QG X (.Name x pos) (gtN i):=Z6R a hi f b
end
def us0{Z:Ab Ad->Prop}(h:Z [])(us:Ab Ad)(a:us.length=0):Z us:=by rw[Qbd a];exact h
def usS{Z:Ab Ad->Prop}{n:Nat}(h:∀(a:Ad) (t:Ab Ad),t.length=n->Z (a::t))(us:Ab Ad)(b:us.length=n+1):Z us:=by
 cases us with
 |nil=>exact absurd b (by simp)
 |cons a t=>exact h a t (Nat.succ.inj b)
structure HB(J:Params->Frag)(P:Program)(w:World)(K:Frag)(mg:Str->Option Value)(base:Heap):Prop where
 k:K=J w.params
 x:HX P w K mg base
 b:K.In base
section
variable {J:Params->Frag}{P:Aj}{w:Ak}{K:Frag}{mg:Str->Aa Ad}{base:Ah}{x:Str}{k n L:Nat}{g:En->Res}{G:Af->En->Ab D->Res×Ab D}{v:Ad}{C S:Af}
def HB.z(Y:HB J P w K mg base)(h:nsIn (J w.params) mainGlobals x=some none):mg x=none:=by
 obtain⟨e,⟨_,X,G⟩,_⟩:=Y;rw[<- e]at h;exact PySem.W.mg_none_of X G h
def HB.val(Y:HB J P w K mg base)(h:nsIn K mainGlobals x=some (some v)):mg x=some v:=by
 obtain⟨e,⟨_,X,G⟩,_⟩:=Y;exact mg_of X G h
theorem HB.c(Y:HB J P w K mg base)(st:Stmt)(N:Ab Str)
  (i:∀{f:Af}{cdv:Ad}{A:Ai}{outer:Ab Env}{s:Ac}{H:Hp}{E:XK},N.Nodup->Room k (A.deeper (envOfC x (aR st) s.heap.objs.size f cdv))->QSs (uH CX0 P w K mg base N x (aR st) f cdv A outer s H E).nox (cB st) g)
  (hd:∃f,HD (J w.params) x st f:=by exact⟨_,by apply PD.HD.mk<;>k_is⟩) (S:eT N (N.take n) (aR st):=by exact(Rn)) (b:(N.take n).length=n:=by rfl) (j:N.length=L:=by rfl)
  (a:HU x st (N.take n):=by intro _;repeat (first|exact PD.us0 rfl|refine PD.usS λ_=>?_)):bL P w K mg base x [] (k+1) n (runF L g):=by
 obtain⟨f,h⟩:=hd;rw[<- Y.k]at h;exact h.c Y.x (λ_ F=>F.k S (λnd hr=>i nd hr) b j) a
theorem HB.e(Y:HB J P w K mg base)(st:Stmt)(N:Ab Str)
  (i:∀{f:Af}{cdv:Ad}{A:Ai}{outer:Ab Env}{s:Ac}{H:Hp}{E:XK},N.Nodup->Room k (A.deeper (envOfC x (aR st) s.heap.objs.size f cdv))->zV (cxE P w K mg base N x (aR st) f cdv A outer s H E) E (cB st) g)
  (hd:∃f,HD (J w.params) x st f:=by exact⟨_,by apply PD.HD.mk<;>k_is⟩) (S:eT N (N.take n) (aR st):=by exact(Rn)) (b:(N.take n).length=n:=by rfl) (j:N.length=L:=by rfl)
  (a:HU x st (N.take n):=by intro _;repeat (first|exact PD.us0 rfl|refine PD.usS λ_=>?_)):dM P w K mg base x [] (k+1) n (runF L g):=by
 obtain⟨f,h⟩:=hd;rw[<- Y.k]at h;exact h.e Y.x (λ_ F=>F.okE S b j λ_ _ _ _ _ _ hr=>i S.nd hr) a
def HB.dk(Y:HB J P w K mg base)(st:Stmt)(N:Ab Str)
  (j:∀(a:Af) {f:Af}{cdv:Ad}{A:Ai}{outer:Ab Env}{s:Ac}{H:Hp}{E:XK},N.Nodup->Room k (A.deeper (envOfC x (aR st) s.heap.objs.size f cdv))->QSsg (uH CX0 P w K mg base N x (aR st) f cdv A outer s H E).nox [a] (cB st) (G a))
  (hd:∃f,HD (J w.params) x st f:=by exact⟨_,by apply PD.HD.mk<;>k_is⟩) (S:eT N (N.take (n+1)) (aR st):=by exact(Rn)) (i:(N.take (n+1)).length=n+1:=by rfl) (l:N.length=L:=by rfl)
  (b:HU x st (N.take (n+1)):=by intro _;repeat (first|exact PD.us0 rfl|refine PD.usS λ_=>?_)):sK P w K mg base x (k+1) n (wW L G):=by
 obtain⟨f,h⟩:=hd;rw[<- Y.k]at h;exact h.g Y.x (λ_ F=>F.okG S i l λa _ _ _ _ _ _ hr=>j a S.nd hr) b
def HDd(K:Frag)(x:Str)(st:Stmt):Prop:=∃f T oc od kV doc pm an cd ct sl ocT odT nT slT,nsIn K mainGlobals x=some (some (.ref f))/\K.lookup f=some ⟨oc,od,.func (fnOf x x (dL st) (cB st) (aR st) (.ref T) kV doc pm an cd ct),sl⟩/\codeIn K cd x=true/\keepIn K (.ref f)=true/\K.lookup T=some ⟨ocT,odT,.seq #[.none] nT,slT⟩
def HDd.mk{st:Stmt}{f T:Af}{o kV j q cd ct h:Ad}{r an b:Aa Af}{n i:Ae (Aa Ad)}{p:Nat}(a:nsIn K mainGlobals x=some (some (.ref f)))(l:K.lookup f=some ⟨o,r,.func (fnOf x x (dL st) (cB st) (aR st) (.ref T) kV j q an cd ct),n⟩)
  (c:codeIn K cd x=true) (k:keepIn K (.ref f)=true) (d:K.lookup T=some ⟨h,b,.seq #[.none] p,i⟩):HDd K x st:=⟨f,T,o,r,kV,j,q,an,cd,ct,n,h,b,p,i,a,l,c,k,d⟩
theorem HB.d(Y:HB J P w K mg base)(st:Stmt)(N:Ab Str)
  (u:∀{f:Af}{cdv:Ad}{A:Ai}{outer:Ab Env}{s:Ac}{H:Hp}{E:XK},N.Nodup->Room k (A.deeper (envOfC x (aR st) s.heap.objs.size f cdv))->QSs (uH CX0 P w K mg base N x (aR st) f cdv A outer s H E).nox (cB st) g)
  (hd:HDd (J w.params) x st:=by apply PD.HDd.mk<;>k_is) (S:eT N (N.take n) (aR st):=by exact(Rn)) (i:(N.take n).length=n:=by rfl) (v:N.length=L:=by rfl)
  (o:∀ (T:Af) (j:Ad) (t:Aa Af) (m:Nat) (p:Ae (Aa Ad)) (r:Ad × Ad × Ad × Aa Af × Ad × Ad) (s:Ac),s.heap.get? T=some ⟨j,t,.seq #[.none] m,p⟩->(∀ us:Ab Ad,us.length=n->BindsTo s (fnOf x x (dL st) (cB st) (aR st) (.ref T) r.1 r.2.1 r.2.2.1 r.2.2.2.1 r.2.2.2.2.1 r.2.2.2.2.2) ⟨us,[]⟩ ((N.take n).zip us)) /\ ∀ us:Ab Ad,us.length=n - 1->BindsTo s (fnOf x x (dL st) (cB st) (aR st) (.ref T) r.1 r.2.1 r.2.2.1 r.2.2.2.1 r.2.2.2.2.1 r.2.2.2.2.2) ⟨us,[]⟩ ((N.take n).zip (us ++ [.none]))
   := by intro T _ _ _ _ _ _ d;constructor<;>repeat (first|exact PD.us0 (.of_defaults rfl d rfl rfl rfl)|refine PD.usS λ_=>?_)):bL P w K mg base x [] (k+1) n (runF L g)/\bL P w K mg base x [.non] (k+1) n (runF L g):=by
 obtain⟨f,T,j,t,kV,h,q,an,cd,ct,p,y,B,I,C,a,l,c,b,d⟩:=hd;rw[<- Y.k]at a l c b d;obtain⟨_,⟨_,X,G⟩,_⟩:=Y;have F:=FunD.k (rW (st:=st) l c b) S (λnd hr=>u nd hr) i v;have m:=mg_of X G a;exact⟨⟨⟨f,_,_,[],[],F,m,b,λs us ks hl=>by rw[QaP]at hl ⊢;exact(o T _ _ _ _ (kV,h,q,an,cd,ct) s (ks _ _ d)).1 us (hl.trans i),.nil,λH=>by simp only[Reps];exact⟨trivial,trivial⟩⟩⟩,
  ⟨⟨f,_,_,[.non],[.none],F,m,b,λs us ks hl=>(o T _ _ _ _ (kV,h,q,an,cd,ct) s (ks _ _ d)).2 us (by rw[Qav,i]at hl;exact Nat.eq_sub_of_add_eq hl),.cons rfl .nil,λH=>by simp only[Reps];exact⟨.non,[],[],[],rfl,rfl,mQ,rfl,rfl⟩⟩⟩⟩
def HCl(K:Frag)(x:Str)(C:Af)(st:Stmt)(q:Str):Prop:=nsIn K mainGlobals x=some (some (.ref C))/\(∃f oc od kV doc pm an cd ct sl,PySem.W.findIn K (.ref C) "__init__" = some (some (.ref f))/\K.lookup f=some ⟨oc,od,.func (fnOf "__init__" q (dL st) (cB st) (aR st) .none kV doc pm an cd ct),sl⟩/\codeIn K cd q=true/\keepIn K (.ref f)=true/\PySem.W.isFn K (.ref f)=true)/\Cls K C/\PySem.W.makesIn K C=true/\keepIn K (.ref C)=true
def HCl.mk{q:Str}{st:Stmt}{f:Af}{r kV o t cd ct:Ad}{u an:Aa Af}{p:Ae (Aa Ad)}(a:nsIn K mainGlobals x=some (some (.ref C)))(b:PySem.W.findIn K (.ref C) "__init__" = some (some (.ref f)))(l:K.lookup f=some ⟨r,u,.func (fnOf "__init__" q (dL st) (cB st) (aR st) .none kV o t an cd ct),p⟩)
  (c:codeIn K cd q=true) (d:keepIn K (.ref f)=true) (e:PySem.W.isFn K (.ref f)=true) (g:PySem.W.plainGet K C Str.empty=true) (h:PySem.W.hasDictIn K C=true) (i:PySem.W.plainOver K C=true) (j:PySem.W.findIn K (.ref C) "__setattr__" = some (some (.builtin "object.__setattr__"))) (m:PySem.W.makesIn K C=true) (n:keepIn K (.ref C)=true):HCl K x C st q:=⟨a,⟨f,r,u,kV,o,t,an,cd,ct,p,b,l,c,d,e⟩,⟨g,h,i,j⟩,m,n⟩
def HCl.cl{q:Str}{st:Stmt}(h:HCl K x C st q):Cls K C:=h.2.2.1
theorem HCl.m{q:Str}{st:Stmt}{ps:Ab Str}{i:Ab D->Aa D}(h:HCl K x C st q)(Y:HX P w K mg base)
  (ok:∀f fd,FunD K "__init__" q st f fd->gT P w K mg base CX0 k f fd ps (spI K C n i)) (o:∀(r:Ad×Ad×Ad×Aa Af×Ad×Ad) (us:Ab Ad),us.length=ps.length->bindArgs (fnOf "__init__" q (dL st) (cB st) (aR st) .none r.1 r.2.1 r.2.2.1 r.2.2.2.1 r.2.2.2.2.1 r.2.2.2.2.2) ⟨us,[]⟩=pure (ps.zip us):=by intro _;repeat (first|exact PD.us0 rfl|refine PD.usS λ_=>?_)):F4 P w K mg base x C k n i:=by
 obtain⟨a,⟨f,u,v,kV,j,p,an,cd,ct,t,b,l,c,d,e⟩,z,m,q⟩:=h;obtain⟨_,X,G⟩:=Y;exact⟨⟨f,_,_,⟨m,b,e,q⟩,ok f _ (rW l c d),mg_of X G a,.all (o (kV,j,p,an,cd,ct))⟩⟩
def HMe(K:Frag)(x:Str)(C:Af)(st:Stmt)(q:Str):Prop:=∃f oc od kV doc pm an cd ct sl,PySem.W.findIn K (.ref C) x=some (some (.ref f))/\K.lookup f=some ⟨oc,od,.func (fnOf x q (dL st) (cB st) (aR st) .none kV doc pm an cd ct),sl⟩/\codeIn K cd q=true/\keepIn K (.ref f)=true/\PySem.W.isFn K (.ref f)=true
def HMe.mk{q:Str}{st:Stmt}{f:Af}{i kV a j cd ct:Ad}{n an:Aa Af}{h:Ae (Aa Ad)}(b:PySem.W.findIn K (.ref C) x=some (some (.ref f)))(l:K.lookup f=some ⟨i,n,.func (fnOf x q (dL st) (cB st) (aR st) .none kV a j an cd ct),h⟩)
  (c:codeIn K cd q=true) (d:keepIn K (.ref f)=true) (e:PySem.W.isFn K (.ref f)=true):HMe K x C st q:=⟨f,i,n,kV,a,j,an,cd,ct,h,b,l,c,d,e⟩
def HMe.m{q:Str}{st:Stmt}(h:HMe K x C st q)(c:Cls K C)(N:Ab Str)
  (t:∀(a:Af) {f:Af}{cdv:Ad}{A:Ai}{outer:Ab Env}{s:Ac}{H:Hp}{E:XK},N.Nodup->Room k (A.deeper (envOfC q (aR st) s.heap.objs.size f cdv))->QSsxg (cxE P w K mg base N q (aR st) f cdv A outer s H E) E [a] (cB st) (G a))
  (S:eT N (N.take (n+1)) (aR st):=by exact(Rn)) (p:(N.take (n+1)).length=n+1:=by rfl) (v:N.length=L:=by rfl)
  (o:∀(r:Ad×Ad×Ad×Aa Af×Ad×Ad) (us:Ab Ad),us.length=(N.take (n+1)).length->bindArgs (fnOf x q (dL st) (cB st) (aR st) .none r.1 r.2.1 r.2.2.1 r.2.2.2.1 r.2.2.2.2.1 r.2.2.2.2.2) ⟨us,[]⟩=pure ((N.take (n+1)).zip us):=by intro _;repeat (first|exact PD.us0 rfl|refine PD.usS λ_=>?_)):Z5W P w K mg base C x (k+1) n (wW L G):=by
 obtain⟨f,B,F,kV,j,u,an,cd,ct,y,b,l,e,d,i⟩:=h;exact⟨⟨f,_,_,FunD.okGE (rW l e d) S p v λa _ _ _ _ _ _ hr=>t a S.nd hr,⟨b,i,d⟩,.all (o (kV,j,u,an,cd,ct)),c⟩⟩
theorem HB.law{f:Af}{b:Ab D->Aa D}{y:Str}{l:Aj}(X:K.In base)(G:base.Ns mainGlobals mg){st:Stmt}(hd:∃f,HD K "law" st f)(j:mg "law" = some (.ref f))
  (i:∀(r:Ad×Ad×Ad×Aa Af×Ad×Ad) (u:Ad),bindArgs (fnOf "law" "law" (dL st) (cB st) (aR st) .none r.1 r.2.1 r.2.2.1 r.2.2.2.1 r.2.2.2.2.1 r.2.2.2.2.2) ⟨[u],[]⟩=pure [(y,u)]) (R:(Ab D->Aa D)->Prop) (r:R b)
  (ok:∀fd,FunD K "law" "law" st f fd->∀base:Ah,K.In base->base.Ns mainGlobals mg->gT l w K mg base CX0 k f fd [y] (spD K 1 b)) :
  ∃(fd:FuncData) (m:Ab D->Aa D),(∀(s:Ac) (u:Ad),BindsTo s fd ⟨[u],[]⟩ [(y,u)])/\R m/\∀base:Ah,K.In base->base.Ns mainGlobals mg->gT l w K mg base CX0 k f fd [y] (spD K 1 m):=by
 obtain⟨f',a,⟨q,t,kV,h,n,an,cd,ct,p,l,c⟩,o⟩:=hd;have e:=j.symm.trans (mg_of X G a);cases e;exact⟨_,b,λs u=>.of_eq (i (kV,h,n,an,cd,ct) u),r,ok _ (rW l c o)⟩
def HXc(K:Frag)(x:Str)(C S:Af):Prop:=nsIn K mainGlobals x=some (some (.ref C))/\(∀base:Ah,K.In base->ExC base C)/\PySem.W.ExcK K C/\PySem.W.exmOne K (.ref C) (.ref S)=some true/\PySem.W.kitOne K (.ref C) (.type "ValueError")=some true
def HXs(K:Frag)(S:Af):Prop:=(∃c1 c2 d1 d2 nm1 bs1 mro1 NS q1 hd1 sn1 sub1 ab1 col1 del1 sl1 sl2 es1 n1,K.lookup S=some ⟨c2,d2,.cls ⟨nm1,bs1,mro1,NS,q1,hd1,sn1,sub1,ab1,col1,del1⟩,sl2⟩/\K.lookup NS=some ⟨c1,d1,.dict es1 n1,sl1⟩/\es1.toList.all (λe=>match e.key with | .str _ _=>true|_=>false)=true/\nsIn K NS "__init__" = some none)/\(∃cd,PySem.W.clsIn K S=some cd)/\PySem.W.typeIn K (.ref S)=some (.type "type")/\PySem.W.subIn K (.ref S) (.type "BaseException")=some true /\
 PySem.W.specialIn K (.builtin "object.__class__") "__get__" = some (some (.builtin "getset_descriptor.__get__"))/\PySem.W.takesIn K (.builtin "object.__class__")=some true
def HXs.mk{q:Af}{u B:Str}{x o p:Ab Ad}{r t l:Bool}{w:Ab Str}{f:Aa Bool}{A E:Aa Af}{C G:Ad}{n:Ae DictEntry}{F:Nat}{v y:Ae (Aa Ad)}{cd:ClassData}
  (a:K.lookup S=some ⟨G,E,.cls ⟨u,x,o,q,B,r,w,p,t,f,l⟩,y⟩) (b:K.lookup q=some ⟨C,A,.dict n F,v⟩) (i:nsIn K q "__init__" = some none) (d:PySem.W.clsIn K S=some cd) (e:PySem.W.typeIn K (.ref S)=some (.type "type")) (g:PySem.W.subIn K (.ref S) (.type "BaseException")=some true)
  (h:PySem.W.specialIn K (.builtin "object.__class__") "__get__" = some (some (.builtin "getset_descriptor.__get__"))) (j:PySem.W.takesIn K (.builtin "object.__class__")=some true) (c:n.toList.all (λe=>match e.key with | .str _ _=>true|_=>false)=true):HXs K S :=
 ⟨⟨C,G,A,E,u,x,o,q,B,r,w,p,t,f,l,v,y,n,F,a,b,c,i⟩,⟨cd,d⟩,e,g,h,j⟩
def HXc.mk{N:Af}{nm q:Str}{bs sub:Ab Ad}{hd ab:Bool}{sn:Ab Str}{col:Aa Bool}{dd d:Aa Af}{k0 k1 k2 k3 k5:Aa Ad}{c:Ad}{es:Ae DictEntry}{n:Nat}{y:Ae (Aa Ad)}(s:HXs K S)(a:nsIn K mainGlobals x=some (some (.ref C)))
  (l:K.lookup C=some (excClassObj nm q C N bs [.ref S,.type "ValueError",.type "Exception",.type "BaseException",.type "object"] hd sn sub ab col dd k0 k1 k2 k3 k5 "ValueError.__new__")) (o:K.lookup N=some ⟨c,d,.dict es n,y⟩) (f:nsIn K N "__init__" = some none)
  (ga:PySem.W.findIn K (.ref C) "__getattribute__" = some (some (.builtin "BaseException.__getattribute__"))) (b:PySem.W.findIn K (.ref C) "__getattr__" = some none) (cl:PySem.W.findIn K (.ref C) "__class__" = some (some (.builtin "object.__class__"))) (u:PySem.W.mroIn K C (.type "object")=some true) (E:PySem.W.mroIn K C (.type "BaseException")=some true)
  (B:PySem.W.subIn K (.ref C) (.type "ValueError")=some true) (ks:PySem.W.subIn K (.ref C) (.ref S)=some true) (t:es.toList.all (λe=>match e.key with | .str _ _=>true|_=>false)=true):HXc K x C S:=by
 obtain⟨⟨U,X,Q,Y,J,O,F,NS,R,I,L,w,G,A,i,H,P,M,Z,r,p,v,i1⟩,⟨cd,d⟩,e,g,h,j⟩:=s;exact⟨a,Z9u l o t f r p v i1,⟨ga,b,cl,h,j,u,E,Z9y l⟩,Z7R d e ks g,Z7E (T := "ValueError") (by decide +kernel) B⟩
def kit_o{cd:ClassData}{CC:Af}(hc:PySem.W.clsIn K CC=some cd)(b:PySem.W.typeIn K (.ref CC)=some (.type "type"))(hs:PySem.W.subIn K (.ref C) (.ref CC)=some false)(a:(C==CC)=false):PySem.W.kitOne K (.ref C) (.ref CC)=some false:=Z7D hc b hs a
end
end PD
set_option maxHeartbeats 0
namespace G
open PySem PySem.Spec PyProof.Rows L2 PD
local macro_rules | `(tactic| walk_at "ev") => do
 let ns:=("runF enStart List.map_cons List.map_nil List.length_cons List.length_nil List.cons_append List.nil_append List.append_nil List.replicate Nat.reduceAdd Nat.reduceSub Nat.reduceLeDiff PD.fz PD.fz1 ev_var ev_C ev_Flat ev_B ev_OfB ev_And ev_Or ev_Not ev_If ev_Nil ev_Cons ev_Tup ev_Lst ev_BI ev_IsN ev_Eq ev_Ix ev_I2' ev_I0' ev_Call ev_B1 ev_NoP ev_P ev_Sl ev_In ev_Idx ev_Bits ev_Neg ev_SlW ev_RevSl ev_CatF keyOf ev_catS ev_join ev_split ev_seqS ev_seq ev_TT ev_cat ev_rNext ev_rIf ev_rRet ev_rSet ev_rSeq List.getElem?_cons_zero List.getElem?_cons_succ List.set_cons_zero List.set_cons_succ Option.join_some Option.map_some Option.bind_some PD.flat Bool.not_true Bool.not_false if_true if_false eqN_int eqN_str eqN_bl eqN_non eqN_tnon atI_m3 atI_m4 atI_0 atI_1 atI_2 atI_3 decide_true decide_false eq_self and_self Bool.and_true Bool.and_false Bool.true_and Bool.false_and eqN_tup eqL_cons eqL_nil eqL_nilL reduceIte reduceCtorEq Int.reduceEq Int.reduceAdd Int.reduceSub Int.reduceLT Int.reduceLE Int.reduceNeg Nat.reduceEqDiff Nat.reduceBEq Bool.false_eq_true".splitOn " ").toArray.map fun s=>Lean.mkIdent s.toName
 `(tactic| simp only [$[$ns:ident],*, *])
def Z7r(b:rows.length<=1000):fR C [.int ins,.lst (rows.map Row.d),LI outs]=some (bE C ins rows outs):=by
 have a:cT [] (fZ (aD 2)) fTT (fB1 jN (aA (aD 0) aF)) [none,oF (.int ins),oF (.lst (rows.map Row.d)),oF (LI outs)]=some (.lst (rows.map Row.d)) :=
  cO Row.d Row.d (xs:=rows) rfl b λr _=>by cases r<;>rfl
 have f:mH [.lst (outs.map D.int)]=some (.lst (outs.map D.int)):=by simp only[mH,dC,Rl]
 unfold fR;simp only[a];simp only[LI,bE];walk_at "ev"
def Ls(l:Ab Nat):Prop:=(∀c∈l,c<128)/\l.length<=400
def dig(c:Nat):Bool:=decide (48<=c/\c<=57)
def okN(l:Ab Nat):Bool:=!decide (l=[])&&decide (l.length<=9) && !(decide (l.head?=some 48) && !decide (l=[48]))&&l.all dig
def lF(l:Ab Nat):(mkS l).length=l.length:=by simp[mkS,Str.length]
def pB(l a:Ab Nat):(mkS l==mkS a)=decide (l=a):=by
 by_cases h:l=a
 .subst h;simp
 .rw[Ri h];cases b:mkS l==mkS a with
  |false=>rfl
  |true =>
   have:=congrArg (λs:Str=>s.cps.toList) (eq_of_beq b);simp only[cZ]at this;exact absurd this h
def Z1r:Str.ofString "" = mkS []:=by decide +kernel
def Z42:Str.ofString "0" = mkS [48]:=by decide +kernel
def Zax:(Str.ofString "0123456789").cps.toList=[48,49,50,51,52,53,54,55,56,57]:=by decide +kernel
def Z9q(c:Nat):inF (.str ⟨#[c]⟩) (.str "0123456789")=some (dig c):=by
 show some (!(Builtin.Str.occurrences (Str.ofString "0123456789") ⟨#[c]⟩ 0 (Str.ofString "0123456789").length 1).isEmpty)=_;rw[PySem.StrLaws.found_one,Zax];congr 1;unfold dig;rw[Bool.eq_iff_iff];simp;omega
theorem yX(p:α->Bool):∀xs:Ab α,kX (xs.map λx=>D.bl (p x))=some (xs.map p)
 |[]=>rfl
 |x::xs=>by simp only[Qat,kX,yX p xs,QaH]
def Z7Y(h:Ls l):(mkS l).cps.all (· < 128)=true:=by
 rw[Array.all_eq_true_iff_forall_mem];intro x a;have:x∈(mkS l).cps.toList:=by simpa using a
 rw[cZ]at this;exact Rj (h.1 x this)
def Zai(h:Ls l):bG [.str (mkS l)]=some (.int (l.length:Int)):=by
 show(if (mkS l).length<=1000 then some (D.int (mkS l).length) else none)=_;have:=h.2;rw[lF,if_pos (by omega)]
def Z7O(h:Ls (c::r)){env:En}{fa:En->Aa D}(e:fa env=some (.str (mkS (c::r)))):fIx fa (fC (.int 0)) env=some (.str (mkS [c])):=by
 have:=h.2;rw[ev_Ix,e,ev_C];show(if (mkS (c::r)).length<=1000 then(atI (mkS (c::r)).cps.toList 0).map λc=>D.str ⟨#[c]⟩ else none)=_;rw[lF,if_pos (by omega),cZ,atI_0];rfl
def rS(h:Ls l):gR C [.str (mkS l)]=some (.bl (okN l)):=by
 have k1:cT [] (X6 (aD 0)) fTT (kR (fIn (aD 0) (fC (.str "0123456789")))) [oF (.str (mkS l))]=some (.lst (l.map λc=>D.bl (dig c))):=by
  refine cO (λ(c:Nat)=>.str ⟨#[c]⟩) (λc=>.bl (dig c)) (xs:=l) ?_ (by have:=h.2;omega) (λx a=>?_)
  .rw[ev_seqS];simp only[ev_var,Qbb,Qbm,QaH,Z7Y h,Rl,sR,cZ]
  .rw[ev_OfB,ev_In];simp only[ev_var,Qbb,Qbm,QaH,ev_C];rw[Z9q];rfl
 have k3:Z82 [.lst (l.map λc=>D.bl (dig c))]=some (.bl (l.all dig)):=by
  show(kX _).map _=_;rw[yX];simp[List.all_map]
 have f1:=Zai h;have q:eqN 8 (.str (mkS l)) (.str "")=some (decide (l=[])):=by rw[eqN_str,Z1r,pB]
 refine S4 ?_;show Wp (oC C [oF (.str (mkS l))]) _;unfold oC;by_cases b:l=[]
 .subst b;exact wI (by rw[show fOr (fEq (aD 0) (fC (.str ""))) (fBI (λi j=>decide (j<i)) (fB1 bG (aA (aD 0) aF)) (fC (.int 9))) [oF (.str (mkS []))]=some true from by rfl]) rfl
 .have o:fEq (aD 0) (fC (.str "")) [oF (.str (mkS l))]=some false:=by
   show eqN 8 (.str (mkS l)) (.str "")=_;rw[q,Ri b]
  have p:fBI (λi j=>decide (j<i)) (fB1 bG (aA (aD 0) aF)) (fC (.int 9)) [oF (.str (mkS l))]=some (decide ((9:Int)<(l.length:Int))):=by
   rw[ev_BI,cN (xs:=[.str (mkS l)]) rfl f1,ev_C]
  by_cases f:(9:Int)<(l.length:Int)
  .refine wI (by rw[ev_Or,o,p,Rj f]) ?_;have:okN l=false:=by unfold okN;rw[Ri (show ¬l.length<=9 by omega)];simp
   rw[this];rfl
  .refine wNo (by rw[ev_Or,o,p,Ri f]) ?_;obtain⟨c,r,rfl⟩:∃c r,l=c::r:=by cases l with
    |nil=>exact absurd rfl b
    |cons c r=>exact⟨c,r,rfl⟩
   have u:fEq (fIx (aD 0) (fC (.int 0))) (fC (.str "0")) [oF (.str (mkS (c::r)))]=some (decide (c=48)):=by
    rw[ev_Eq,Z7O h rfl,ev_C];show eqN 8 (.str (mkS [c])) (.str "0")=_;rw[eqN_str,Z42,pB];simp
   have t:fEq (aD 0) (fC (.str "0")) [oF (.str (mkS (c::r)))]=some (decide (c::r=[48])):=by
    show eqN 8 (.str (mkS (c::r))) (.str "0")=_;rw[eqN_str,Z42,pB]
   have n:iJ (fEq (fIx (aD 0) (fC (.int 0))) (fC (.str "0"))) (kT (fEq (aD 0) (fC (.str "0")))) [oF (.str (mkS (c::r)))]=some (decide (c=48) && !decide (c::r=[48])):=by
    rw[ev_And,u,ev_Not,t];by_cases hc:c=48<;>simp[hc]
   have ok:okN (c::r)=(!(decide (c=48) && !decide (c::r=[48]))&&(c::r).all dig):=by
    unfold okN;rw[Ri b,Rj (show(c::r).length<=9 by omega)];simp
   cases a:(decide (c=48) && !decide (c::r=[48])) with
   |true =>
    refine wI (by rw[n,a]) ?_;rw[ok,a];rfl
   |false =>
    refine wNo (by rw[n,a]) ?_;refine Z62 (d:=.bl ((c::r).all dig)) ?_ (by rw[ok,a];rfl);exact cN (xs:=[.lst ((c::r).map λc=>D.bl (dig c))]) (aI k1 rfl) k3
def Z0C(h:okN l=true):PySem.NumText.AllDigits l/\l≠[]/\l.length<=9:=by
 unfold okN at h;simp only[Qam,Bool.not_eq_true',decide_eq_false_iff_not,Rk]at h;obtain⟨⟨⟨h1,h2⟩,_⟩,h3⟩:=h;exact⟨λc hc=>by have:=QaS.mp h3 c hc;simpa[dig]using this,h1,h2⟩
def Z8l(h:okN l=true):F6 [.str (mkS l)]=some (.int ((PySem.NumText.digitsVal l:Nat):Int)):=by
 obtain⟨h1,h2,h3⟩:=Z0C h;show(if (mkS l).length<=640 then(PySem.intText? (mkS l)).map D.int else none)=_;rw[lF,if_pos (by omega),PySem.intText_digits (by rw[cZ];exact h1) (by rw[cZ];exact h2) (by rw[lF];omega),cZ];rfl
def Z7{α:Type}{p:α->Bool}{l:Ab α}{i:Nat}{c:α}(h:l[i]?=some c)(h1:(l.take i).all p=true)(h2:p c=true):(l.take (i+1)).all p=true:=by
 rw[Qbe,h,List.all_append,h1];simp[h2]
def dvI(l:Ab Nat):Int:=((PySem.NumText.digitsVal l:Nat):Int)
def okB(b:Int)(l:Ab Nat):Bool:=okN l&&decide (dvI l<b)
def SS(l:Ab Nat):D:=.str (mkS l)
def wA{α:Type}{p:α->Bool}{l:Ab α}{i:Nat}{c:α}(h:l[i]?=some c)(h2:p c=false):l.all p=false:=by
 rw[<- Bool.not_eq_true];intro z;have:=QaS.mp z c (QaT h);rw[h2]at this;cases this
def iC{C CE:Af}{ws:Ab (Ab Nat)}{b:Int}(h:∀l∈ws,Ls l)(A:ws.length<=500) :
  bO C CE [.lst (ws.map SS),.int b]=some (if ws.all (okB b)=true then LI (ws.map dvI) else .exc CE):=by
 refine S4 ?_;show Wp (jL C CE [oF (.lst (ws.map SS)),oF (.int b),none,none,none]) _;unfold jL;refine hU (d:=.lst []) rfl ?_;show aL _ _ [oF (.lst (ws.map SS)),oF (.int b),oT (.lst []),none,none]=_;refine Z6u (ds:=ws.map SS) rfl (λi env=>∃x y,env=[oF (.lst (ws.map SS)),oF (.int b),oT (LI ((ws.take i).map dvI)),x,y]/\(ws.take i).all (okB b)=true) ⟨none,none,rfl,rfl⟩ ?_ ?_
 .rintro i d env hd ⟨x,y,rfl,ha⟩;obtain⟨l,hw,rfl⟩:=iO hd;have w:=h l (QaT hw);refine⟨_,rfl,?_⟩;have q:=rS (C:=C) w;have f:∀y,kT (fB (aJ (gR C) [] (aA (aD 3) aF))) [oF (.lst (ws.map SS)),oF (.int b),oT (LI ((ws.take i).map dvI)),oF (SS l),y]=some (!okN l):=λy=>by
   rw[ev_Not,ev_B,aP (xs:=[SS l]) rfl q];rfl
  cases a:okN l with
  |false =>
   right;left;have o:ws.all (okB b)=false:=wA hw (by unfold okB;rw[a];rfl);refine⟨.exc CE,?_,by rw[o];rfl⟩;show aL _ _ [oF (.lst (ws.map SS)),oF (.int b),oT (LI ((ws.take i).map dvI)),oF (SS l),y]=_;unfold aL rIf;rw[f,a];rfl
  |true =>
   have r:fB1 F6 (aA (aD 3) aF) [oF (.lst (ws.map SS)),oF (.int b),oT (LI ((ws.take i).map dvI)),oF (SS l),y]=some (.int (dvI l)):=cN (xs:=[SS l]) rfl (Z8l a);have p:fBI (λi j=>decide (j<=i)) (aD 4) (aD 1) [oF (.lst (ws.map SS)),oF (.int b),oT (LI ((ws.take i).map dvI)),oF (SS l),oT (.int (dvI l))]=some (decide (b<=dvI l)):=rfl;by_cases t:b<=dvI l
   .right;left;have o:ws.all (okB b)=false:=wA hw (by unfold okB;rw[a,Ri (by omega)];rfl);refine⟨.exc CE,?_,by rw[o];rfl⟩;show aL _ _ [oF (.lst (ws.map SS)),oF (.int b),oT (LI ((ws.take i).map dvI)),oF (SS l),y]=_;refine sNo (by rw[f,a];rfl) ?_;refine mB r ?_;show aL _ _ [oF (.lst (ws.map SS)),oF (.int b),oT (LI ((ws.take i).map dvI)),oF (SS l),oT (.int (dvI l))]=_;unfold aL rIf;rw[p,Rj t];rfl
   .left;have v:okB b l=true:=by unfold okB;rw[a,Rj (by omega)];rfl
    refine⟨[oF (.lst (ws.map SS)),oF (.int b),oT (LI ((ws.take (i+1)).map dvI)),oF (SS l),oT (.int (dvI l))],.inl ?_,_,_,rfl,Z7 hw ha v⟩;show aL _ _ [oF (.lst (ws.map SS)),oF (.int b),oT (LI ((ws.take i).map dvI)),oF (SS l),y]=_;refine sNo (by rw[f,a];rfl) ?_;refine mB r ?_;show aL _ _ [oF (.lst (ws.map SS)),oF (.int b),oT (LI ((ws.take i).map dvI)),oF (SS l),oT (.int (dvI l))]=_;refine sNo (by rw[p,Ri t]) ?_;have n:(((ws.take i).map dvI).map D.int).length<=1000:=by rw[Qab,Qab,QaR];omega
    have u:iA 2 (aZ (aD 4)) [oF (.lst (ws.map SS)),oF (.int b),oT (LI ((ws.take i).map dvI)),oF (SS l),oT (.int (dvI l))]=.next [oF (.lst (ws.map SS)),oF (.int b),oT (.lst (((ws.take i).map dvI).map D.int++[.int (dvI l)])),oF (SS l),oT (.int (dvI l))]:=by
     unfold iA;rw[show aZ (aD 4) [oF (.lst (ws.map SS)),oF (.int b),oT (LI ((ws.take i).map dvI)),oF (SS l),oT (.int (dvI l))]=some (.int (dvI l)) from rfl]
     show(if (((ws.take i).map dvI).map D.int).length<=1000 then _ else _)=_;rw[if_pos n];rfl
    show noX (iA 2 (aZ (aD 4)) [oF (.lst (ws.map SS)),oF (.int b),oT (LI ((ws.take i).map dvI)),oF (SS l),oT (.int (dvI l))])=_;rw[u];show Res.next _=_;rw[Qbe,hw];simp[LI]
 .rintro env' ⟨x,y,rfl,ha⟩;rw[Qab,QaW]at ha ⊢;rw[ha];rfl
theorem hV(c:Nat):∀(l:Ab Nat),(cX c l).length<=l.length+1/\∀w∈cX c l,w.length<=l.length/\∀x∈w,x∈l
 |[]=>⟨by simp[cX],λw hw=>by rw[Qay.mp (show w∈[[]] from hw)];exact⟨Qap _,λx hx=>by cases hx⟩⟩
 |x::xs=>by
  obtain⟨h1,h2⟩:=hV c xs;unfold cX;split
  .refine⟨by simp only[Qaf];omega,λw hw=>?_⟩;rcases Qad.mp hw with z|z
   .subst z;exact⟨by simp,λx hx=>by cases hx⟩
   .obtain⟨a,b⟩:=h2 w z;exact⟨by simp only[Qaf];omega,λy hy=>Qaa _ (b y hy)⟩
  .obtain⟨f,t,e⟩:=lV c xs;rw[e]at h1 h2 ⊢;refine⟨by simp only[Qaf]at *;omega,λw hw=>?_⟩;rcases Qad.mp hw with z|z
   .subst z;obtain⟨a,b⟩:=h2 f Qai;refine⟨by simp only[Qaf];omega,λy hy=>?_⟩;rcases Qad.mp hy with z|z
    .rw[z];exact Qai
    .exact Qaa _ (b y z)
   .obtain⟨a,b⟩:=h2 w (Qaa _ z);exact⟨by simp only[Qaf];omega,λy hy=>Qaa _ (b y hy)⟩
def Wds(l:Ab Nat):Ab (Ab Nat):=cX 32 l
def Z1b(h:Ls l):∀w∈Wds l,Ls w:=λw hw=>by
 obtain⟨a,b⟩:=(hV 32 l).2 w hw;exact⟨λc hc=>h.1 c (b c hc),by have:=h.2;omega⟩
def nJ(h:Ls l){env:En}{fa:En->Aa D}(b:fa env=some (SS l)):mZ fa (kS " ") env=some (.lst ((Wds l).map SS)):=by
 have e:jD (mkS l) (Str.ofString " ")=(Wds l).map mkS:=by
  rw[yY];have:=Z2h (mkS l) 32 (by
   rw[Array.all_eq_true_iff_forall_mem];intro x f;have a:x∈(mkS l).cps.toList:=by simpa using f
   rw[cZ]at a;exact Rj (by have:=h.1 x a;omega)) (by decide)
  rw[cZ]at this;exact this
 have i:=(hV 32 l).1;have h2:=h.2;unfold mZ;rw[b];show(if ((Str.ofString " ").length==0)=false/\(mkS l).length<=5000/\(jD (mkS l) (Str.ofString " ")).length<=1000 then some (D.lst ((jD (mkS l) (Str.ofString " ")).map .str)) else none)=_;rw[e,if_pos ⟨by decide +kernel,by rw[lF];omega,by rw[Qab];show(cX 32 l).length<=1000;omega⟩,Qa8];rfl
def kQ(ws:Ab (Ab Nat)):flats (ws.map SS)=true:=uF λd hd=>by
 obtain⟨i,_,rfl⟩:=QaL.mp hd;rfl
def qR(a:fa env=some (.lst ((w::ws).map SS))):fSl fa (fP (kI 1)) fE env=some (.lst (ws.map SS)):=by
 unfold fSl;rw[a];show(if flats ((w::ws).map SS)=true then some (D.lst (PD.cutD ((w::ws).map SS) (some 1) none)) else none)=_;rw[if_pos (kQ _),Qat,Z3b]
def lI(a:fa env=some (.lst ((w::ws).map SS))):fIx fa (fC (.int 0)) env=some (SS w):=by
 rw[ev_Ix,a,ev_C,Qat];exact atI_0 _ _
def Z50{ws:Ab (Ab Nat)}{env:En}{fa:En->Aa D}(a:fa env=some (.lst (ws.map SS))):fB1 bG (aA fa aF) env=some (.int (ws.length:Int)):=by
 rw[cN (xs:=[.lst (ws.map SS)]) (aI a rfl) (show bG [.lst (ws.map SS)]=some (.int (ws.length:Int)) by simp only[bG,Qab])]
def eqS(hs:s=mkS k)(a:fa env=some (SS w)):fEq fa (fC (.str s)) env=some (decide (w=k)):=by
 rw[ev_Eq,a,ev_C];show eqN 8 (.str (mkS w)) (.str s)=_;rw[hs,eqN_str,pB]
def kIns:Ab Nat:=[105,110,115]
def kOuts:Ab Nat:=[111,117,116,115]
def vL:Ab Nat:=[102,105,120]
def M7:Ab Nat:=[110,111,116]
def V9:Ab Nat:=[97,110,100]
def kOr:Ab Nat:=[111,114]
def V8:Ab Nat:=[120,111,114]
def Z8a:Str.ofString "ins" = mkS kIns:=by decide +kernel
def Z45:Str.ofString "outs" = mkS kOuts:=by decide +kernel
def Z4b:Str.ofString "fix" = mkS vL:=by decide +kernel
def Z88:Str.ofString "not" = mkS M7:=by decide +kernel
def Z8b:Str.ofString "and" = mkS V9:=by decide +kernel
def Z9W:Str.ofString "or" = mkS kOr:=by decide +kernel
def Z86:Str.ofString "xor" = mkS V8:=by decide +kernel
def W5(l:Ab Nat):Aa Int:=match Wds l with
 |[w,v]=>if (decide (w=kIns)&&okB 9 v)=true then some (dvI v) else none
 |_=>none
theorem S9{C CE:Af}{l:Ab Nat}(h:Ls l):gM C CE [SS l]=some (match W5 l with|some n=>.int n|none=>.exc CE):=by
 have hw:=Z1b h;have hn:=(hV 32 l).1;have h2:=h.2;refine S4 ?_;show Wp (qJ C CE [oF (SS l),none]) _;unfold qJ;refine hU (nJ h rfl) ?_;show Wp (aL _ _ [oF (SS l),oT (.lst ((Wds l).map SS))]) _;unfold W5;obtain⟨w,ws,e⟩:=lV 32 l;have e':Wds l=w::ws:=e;have hlen:(w::ws).length<=401:=by rw[<- e];omega
 rw[e']at hw ⊢;have e1:=eqS (w:=w) Z8a (lI (w:=w) (ws:=ws) (fa:=aD 1) (env:=[oF (SS l),oT (.lst ((w::ws).map SS))]) rfl);have e2:=Z50 (ws:=w::ws) (fa:=aD 1) (env:=[oF (SS l),oT (.lst ((w::ws).map SS))]) rfl;have e3:fOr (kT (fEq (fIx (aD 1) (fC (.int 0))) (fC (.str "ins")))) (kT (fEq (fB1 bG (aA (aD 1) aF)) (fC (.int 2)))) [oF (SS l),oT (.lst ((w::ws).map SS))]=some (!(decide (w=kIns)&&decide (((w::ws).length:Int)=2))):=by
  rw[ev_Or,ev_Not,e1];by_cases hk:w=kIns
  .rw[Rj hk];simp only[QaH,Bool.not_true];rw[ev_Not,ev_Eq,e2,ev_C];dsimp only;rw[eqN_int];simp
  .rw[Ri hk];rfl
 by_cases hc:(decide (w=kIns)&&decide (((w::ws).length:Int)=2))=true
 .rw[Qam,Rk,Rk]at hc;obtain⟨v,rfl⟩:∃v,ws=[v]:=by
   match ws,hc.2 with
   |[v],_=>exact⟨v,rfl⟩
   |[],z=>simp at z
   |_::_::_,z=>simp at z;omega
  refine wNo (by rw[e3,Rj hc.1];simp) ?_;have nb:=iC (C:=C) (CE:=CE) (ws:=[v]) (b:=9) (λl hl=>hw l (Qaa _ hl)) (by simp);have cl:aJ (bO C CE) [] (aA (fSl (aD 1) (fP (fC (.int 1))) fE) (aA (fI0 (λi j=>.int (i+j)) (fC (.int 8)) (fC (.int 1))) aF)) [oF (SS l),oT (.lst ([w,v].map SS))]=some (if [v].all (okB 9)=true then LI ([v].map dvI) else .exc CE) :=
   aP (xs:=[.lst ([v].map SS),.int 9]) (aI (qR (w:=w) rfl) rfl) nb
  dsimp only;rw[Rj hc.1];cases hk:okB 9 v with
  |true =>
   have ha:[v].all (okB 9)=true:=by simp[hk]
   rw[ha,if_pos rfl]at cl;show rOr _ _ _ _=_;rw[gG cl (λC e=>by cases e)];show noX (bA _ _)=_;have fx:=eL cl (λC e=>by cases e);have:aZ (fIx (fNX (aJ (bO C CE) [] (aA (fSl (aD 1) (fP (fC (.int 1))) fE) (aA (fI0 (λi j=>.int (i+j)) (fC (.int 8)) (fC (.int 1))) aF)))) (fC (.int 0))) [oF (SS l),oT (.lst ([w,v].map SS))]=some (.int (dvI v)):=by
    rw[ev_Flat,ev_Ix,fx,ev_C];rfl
   unfold bA;rw[this];rfl
  |false =>
   have ha:[v].all (okB 9)=false:=by simp[hk]
   rw[ha,if_neg (by decide)]at cl;show rOr _ _ _ _=_;rw[jQ cl rfl];rfl
 .refine wI (by rw[e3,Bool.not_eq_true _ |>.mp hc];rfl) ?_;show Res.ret (.exc CE)=_
  match ws with
  |[]=>rfl
  |[v] =>
   have:w≠kIns:=λz=>hc (by simp[z]);simp[this]
  |_::_::_=>rfl
def B7(n:Int)(l:Ab Nat):Bool:=match Wds l with
 |w::ws=>decide (w=kOuts)&&(decide (1<=ws.length)&&decide (ws.length<=16))&&ws.all (okB n)
 |[]=>false
def K3{C CE:Af}{l:Ab Nat}{n:Int}(h:Ls l):∃d,jA C CE [SS l,.int n]=some d/\(B7 n l=true->d=LI (((Wds l).drop 1).map dvI))/\(B7 n l=false->d=.exc CE):=by
 have hw:=Z1b h;have A:=(hV 32 l).1;have h2:=h.2;refine R9 ?_;show Wp (nY C CE [oF (SS l),oF (.int n),none]) _;unfold nY;refine hU (nJ h rfl) ?_;show Wp (aL _ _ [oF (SS l),oF (.int n),oT (.lst ((Wds l).map SS))]) _;unfold B7;obtain⟨w,ws,e⟩:=lV 32 l;have u:Wds l=w::ws:=e;have o:(w::ws).length<=401:=by rw[<- e];omega
 rw[u]at hw ⊢;dsimp only;have r:=eqS (w:=w) Z45 (lI (w:=w) (ws:=ws) (fa:=aD 2) (env:=[oF (SS l),oF (.int n),oT (.lst ((w::ws).map SS))]) rfl);have p:=Z50 (ws:=w::ws) (fa:=aD 2) (env:=[oF (SS l),oF (.int n),oT (.lst ((w::ws).map SS))]) rfl;by_cases f:w=kOuts
 .refine wNo (by rw[ev_Not,r,Rj f];rfl) ?_;have t:fOr (fBI (λi j=>decide (i<j)) (fB1 bG (aA (aD 2) aF)) (fC (.int 2))) (fBI (λi j=>decide (j<i)) (fI0 (λi j=>.int (i-j)) (fB1 bG (aA (aD 2) aF)) (fC (.int 1))) (fC (.int 16))) [oF (SS l),oF (.int n),oT (.lst ((w::ws).map SS))]=some (!(decide (1<=ws.length)&&decide (ws.length<=16))):=by
   have v:fBI (λi j=>decide (i<j)) (fB1 bG (aA (aD 2) aF)) (fC (.int 2)) [oF (SS l),oF (.int n),oT (.lst ((w::ws).map SS))]=some (decide (((w::ws).length:Int)<2)):=by rw[ev_BI,p,ev_C]
   have x:fBI (λi j=>decide (j<i)) (fI0 (λi j=>.int (i-j)) (fB1 bG (aA (aD 2) aF)) (fC (.int 1))) (fC (.int 16)) [oF (SS l),oF (.int n),oT (.lst ((w::ws).map SS))]=some (decide ((16:Int)<((w::ws).length:Int)-1)):=by rw[ev_BI,ev_I0',p,ev_C,ev_C]
   rw[ev_Or,v,x];by_cases a:1<=ws.length
   .rw[Rj a,Ri (show ¬(((w::ws).length:Int)<2) by simp only[Qaf];omega)];dsimp only;congr 1;rw[Bool.eq_iff_iff];simp only[Qaf,Rk,Bool.true_and,Bool.not_eq_true',decide_eq_false_iff_not];omega
   .rw[Ri a,Rj (show(((w::ws).length:Int)<2) by simp only[Qaf];omega)];rfl
  cases a:(decide (1<=ws.length)&&decide (ws.length<=16)) with
  |false =>
   refine wI (by rw[t,a];rfl) ?_;refine⟨.exc CE,rfl,λz=>?_,λ_=>rfl⟩;rw[Rj f]at z;cases z
  |true =>
   refine wNo (by rw[t,a];rfl) ?_;have y:=iC (C:=C) (CE:=CE) (ws:=ws) (b:=n) (λl hl=>hw l (Qaa _ hl)) (by simp only[Qaf]at o;omega);have cl:aJ (bO C CE) [] (aA (fSl (aD 2) (fP (fC (.int 1))) fE) (aA (aD 1) aF)) [oF (SS l),oF (.int n),oT (.lst ((w::ws).map SS))]=some (if ws.all (okB n)=true then LI (ws.map dvI) else .exc CE) :=
    aP (xs:=[.lst (ws.map SS),.int n]) (aI (qR (w:=w) rfl) rfl) y
   cases q:ws.all (okB n) with
   |true =>
    rw[q,if_pos rfl]at cl;show Rt _ (rOr _ _ _ _);rw[gG cl (λC e=>by cases e)];refine⟨LI (ws.map dvI),?_,λ_=>rfl,λz=>?_⟩
    .show noX (bA _ _)=_;unfold bA;rw[eL cl (λC e=>by cases e)];rfl
    .rw[Rj f]at z;cases z
   |false =>
    rw[q,if_neg (by decide)]at cl;show Rt _ (rOr _ _ _ _);rw[jQ cl rfl];refine⟨.exc CE,rfl,λz=>?_,λ_=>rfl⟩;rw[Bool.and_false]at z;cases z
 .refine wI (by rw[ev_Not,r,Ri f];rfl) ?_;refine⟨.exc CE,rfl,λz=>?_,λ_=>rfl⟩;rw[Ri f]at z;cases z
def kc(w:Ab Nat):Aa Int:=if w=vL then some 1 else if w=M7 then some 1 else if w=V9 then some 2 else if w=kOr then some 2 else if w=V8 then some 2 else none
theorem Z7K(w:Ab Nat):F7 [("fix",1),("not",1),("and",2),("or",2),("xor",2)] [SS w]=some (match kc w with|some i=>.int i|none=>.non):=by
 show some (match List.lookup (mkS w) [(Str.ofString "fix",(1:Int)),(Str.ofString "not",1),(Str.ofString "and",2),(Str.ofString "or",2),(Str.ofString "xor",2)] with|some i=>D.int i|none=>.non)=_
 rw[Z4b,Z88,Z8b,Z9W,Z86];unfold kc;simp only[QaF,pB,List.lookup_nil];by_cases h1:w=vL
 .simp[h1]
 .by_cases h2:w=M7
  .subst h2;rfl
  .by_cases h3:w=V9
   .subst h3;rfl
   .by_cases h4:w=kOr
    .subst h4;rfl
    .by_cases h5:w=V8
     .subst h5;rfl
     .simp[h1,h2,h3,h4,h5]
def bnd(w:Ab Nat)(n:Int):Int:=if w=vL then 2 else n
def vK(n:Int)(l:Ab Nat):Bool:=match Wds l with
 |w::ws=>decide (kc w=some (ws.length:Int))&&ws.all (okB (bnd w n))
 |[]=>false
def zM(l:Ab Nat):D:=match Wds l with
 |w::ws=>.tup (SS w::(ws.map dvI).map D.int)
 |[]=>.non
def S8{C CE:Af}{l:Ab Nat}{n:Int}(h:Ls l):∃d,kL C CE [SS l,.int n]=some d/\(vK n l=true->d=zM l)/\(vK n l=false->d=.exc CE):=by
 have hw:=Z1b h;have y:=(hV 32 l).1;have h2:=h.2;refine R9 ?_;show Wp (qI C CE [oF (SS l),oF (.int n),none,none,none]) _;unfold qI;refine hU (nJ h rfl) ?_;show Wp (aL _ _ [oF (SS l),oF (.int n),oT (.lst ((Wds l).map SS)),none,none]) _;unfold vK zM;obtain⟨w,ws,e⟩:=lV 32 l;have q:Wds l=w::ws:=e;have f:(w::ws).length<=401:=by rw[<- e];omega
 rw[q]at hw ⊢;dsimp only;refine hU (d:=SS w) (by rw[ev_Flat,lI (w:=w) (ws:=ws) rfl];rfl) ?_;show Wp (aL _ _ [oF (SS l),oF (.int n),oT (.lst ((w::ws).map SS)),oT (SS w),none]) _;have r:=Z50 (ws:=w::ws) (fa:=aD 2) (env:=[oF (SS l),oF (.int n),oT (.lst ((w::ws).map SS)),oT (SS w),none]) rfl;have p:kT (fEq (fB1 (F7 [("fix",1),("not",1),("and",2),("or",2),("xor",2)]) (aA (aD 3) aF)) (fI0 (λi j=>.int (i-j)) (fB1 bG (aA (aD 2) aF)) (fC (.int 1)))) [oF (SS l),oF (.int n),oT (.lst ((w::ws).map SS)),oT (SS w),none]=some (!decide (kc w=some (ws.length:Int))):=by
  rw[ev_Not,ev_Eq,cN (xs:=[SS w]) rfl (Z7K w),ev_I0',r,ev_C];dsimp only;cases A:kc w with
  |none=>rfl
  |some k =>
   dsimp only;rw[eqN_int];simp only[QaH,Qbk,Qaf];congr 3;omega
 cases hc:decide (kc w=some (ws.length:Int)) with
 |false =>
  refine wI (by rw[p,hc];rfl) ?_;exact⟨.exc CE,rfl,λz=>(by cases z),λ_=>rfl⟩
 |true =>
  refine wNo (by rw[p,hc];rfl) ?_;have x:=eqS (w:=w) Z4b (show aD 3 [oF (SS l),oF (.int n),oT (.lst ((w::ws).map SS)),oT (SS w),none]=some (SS w) from rfl)
  refine hU (d:=.int (bnd w n)) (by
   rw[ev_If,x];unfold bnd;by_cases a:w=vL
   .rw[Rj a,if_pos a];rfl
   .rw[Ri a,if_neg a];rfl) ?_
  show Wp (rOr _ _ _ [oF (SS l),oF (.int n),oT (.lst ((w::ws).map SS)),oT (SS w),oT (.int (bnd w n))]) _;have v:=iC (C:=C) (CE:=CE) (ws:=ws) (b:=bnd w n) (λl hl=>hw l (Qaa _ hl)) (by simp only[Qaf]at f;omega);have cl:aJ (bO C CE) [] (aA (fSl (aD 2) (fP (fC (.int 1))) fE) (aA (aD 4) aF)) [oF (SS l),oF (.int n),oT (.lst ((w::ws).map SS)),oT (SS w),oT (.int (bnd w n))]=some (if ws.all (okB (bnd w n))=true then LI (ws.map dvI) else .exc CE) :=
   aP (xs:=[.lst (ws.map SS),.int (bnd w n)]) (aI (qR (w:=w) rfl) rfl) v
  cases o:ws.all (okB (bnd w n)) with
  |true =>
   rw[o,if_pos rfl]at cl;show Rt _ (rOr _ _ _ _);rw[gG cl (λC e=>by cases e)];refine⟨.tup (SS w::(ws.map dvI).map D.int),?_,λ_=>rfl,λz=>(by cases z)⟩
   .have fx:=eL cl (λC e=>by cases e);have t:vO (cW (aA (aZ (aD 3)) aF)) (fNX (aJ (bO C CE) [] (aA (fSl (aD 2) (fP (fC (.int 1))) fE) (aA (aD 4) aF)))) [oF (SS l),oF (.int n),oT (.lst ((w::ws).map SS)),oT (SS w),oT (.int (bnd w n))]=some (.lst (SS w::(ws.map dvI).map D.int)):=by
     unfold vO;rw[fx];show(if [SS w].length+((ws.map dvI).map D.int).length<=1000 then some (D.lst ([SS w]++(ws.map dvI).map D.int)) else none)=_;rw[if_pos (by simp only[Qab,Qaf,Qa2]at *;omega)];rfl
    have u:flats (SS w::(ws.map dvI).map D.int)=true:=by
     have:=dC (ws.map dvI);show(flat (SS w)&&flats ((ws.map dvI).map D.int))=true;rw[this];rfl
    show noX (bA _ _)=_;unfold bA;rw[cN (xs:=[.lst (SS w::(ws.map dvI).map D.int)]) (aI t rfl) (show jN [.lst (SS w::(ws.map dvI).map D.int)]=some (.tup (SS w::(ws.map dvI).map D.int)) by simp only[jN,u,Rl])];rfl
  |false =>
   rw[o,if_neg (by decide)]at cl;show Rt _ (rOr _ _ _ _);rw[jQ cl rfl];exact⟨.exc CE,rfl,λz=>(by cases z),λ_=>rfl⟩
def Z5t(a:Ab Nat)(mid:Ab (Ab Nat))(z:Ab Nat):Prop:=∃n,W5 a=some n/\(∀(i:Nat) l,mid[i]?=some l->vK (n+(i:Int)) l=true)/\B7 (n+(mid.length:Int)) z=true
def Tpl(d:D):Prop:=∃ds,d=.tup ds/\flats ds=true
def Z7h(C:Af)(i:Int)(rs:Ab D)(outs:Ab Int):D:=.obj C ["ins","rows","outs"] [.int i,.lst rs,LI outs]
def Z7q(b:rs.length<=1000)(h:∀d∈rs,Tpl d):fR C [.int i,.lst rs,LI outs]=some (Z7h C i rs outs):=by
 have a:cT [] (fZ (aD 2)) fTT (fB1 jN (aA (aD 0) aF)) [none,oF (.int i),oF (.lst rs),oF (LI outs)]=some (.lst rs):=by
  rw[cO (λd=>d) (λd=>d) (xs:=rs) (by simp only[List.map_id'];rfl) b λr hr=>by
   obtain⟨ds,rfl,f⟩:=h r hr;rw[cN (xs:=[.tup ds]) rfl (show jN [.tup ds]=some (.tup ds) by simp only[jN,f,Rl])]]
  rw[List.map_id']
 have j:mH [.lst (outs.map D.int)]=some (.lst (outs.map D.int)):=by simp only[mH,dC,Rl]
 unfold fR;simp only[a];simp only[LI,Z7h];walk_at "ev"
def Z9h(f:fa env=some (.lst ((a::mid++[z]).map SS))):fSl fa (fP (kI 1)) (fP (fC (.int (-1)))) env=some (.lst (mid.map SS)):=by
 unfold fSl;rw[f];show(if flats ((a::mid++[z]).map SS)=true then some (D.lst (PD.cutD ((a::mid++[z]).map SS) (some 1) (some (-1)))) else none)=_;rw[if_pos (kQ _),QaI,Qat];congr 2;unfold PD.cutD;generalize mid.map SS=ys;have h:(SS a::ys++[z].map SS).length=ys.length+1+1:=by simp
 have b:HT.sIx (ys.length+1+1) (ys.length+1+1) (some (-1))=ys.length+1:=by
  show(if (-1:Int)<0 then(-1+((ys.length+1+1:Nat):Int)).toNat else min (-1:Int).toNat (ys.length+1+1))=_;rw[if_pos (by decide)];omega
 rw[h,Z0l,b];simp
def Z7w(b:fa env=some (.lst ((a::mid++[z]).map SS))):fIx fa (fC (.int (-1))) env=some (SS z):=by
 rw[ev_Ix,b,ev_C,QaI];exact Z5 _ _
def Z5s(b:fa env=some (.lst ((a::mid++[z]).map SS))):fIx fa (fC (.int 0)) env=some (SS a):=by
 rw[ev_Ix,b,ev_C,Qa3,Qat];exact atI_0 _ _
def Z4g(h:vK n l=true):Tpl (zM l):=by
 unfold vK at h;unfold zM;split at h
 .rename_i w ws e;have:=dC (ws.map dvI);exact⟨_,rfl,by show(flat (SS w)&&flats ((ws.map dvI).map D.int))=true;rw[this];rfl⟩
 .cases h
theorem Z6A{C CE:Af}{a z:Ab Nat}{mid:Ab (Ab Nat)}(ha:Ls a)(hm:∀l∈mid,Ls l)(hz:Ls z)(hl:mid.length<=60) :
  ∃d,qF C CE [.lst ((a::mid++[z]).map SS)]=some d/\(Z5t a mid z->∃n,W5 a=some n/\d=Z7h C n (mid.map zM) (((Wds z).drop 1).map dvI))/\(¬Z5t a mid z->d=.exc CE):=by
 have el:∀x1 x2 x3,fB1 bG (aA (aD 0) aF) [oF (.lst ((a::mid++[z]).map SS)),x1,x2,x3]=some (.int ((mid.length+2:Nat):Int)):=λx1 x2 x3=>by
  rw[Z50 (ws:=a::mid++[z]) rfl];congr 2;simp;omega
 refine R9 ?_;show Wp (Z0T C CE [oF (.lst ((a::mid++[z]).map SS)),none,none,none]) _;unfold Z0T;refine wNo (by rw[ev_BI,el,ev_C];dsimp only;rw[Ri (by omega)]) ?_;refine wNo (by rw[ev_BI,ev_I0',el,ev_C,ev_C];dsimp only;rw[Ri (by omega)]) ?_;have ri:=S9 (C:=C) (CE:=CE) ha;have cl:aJ (gM C CE) [] (aA (fIx (aD 0) (fC (.int 0))) aF) [oF (.lst ((a::mid++[z]).map SS)),none,none,none]=some (match W5 a with|some n=>.int n|none=>.exc CE):=aP (xs:=[SS a]) (aI (Z5s rfl) rfl) ri
 cases hi:W5 a with
 |none =>
  rw[hi]at cl;refine Z61 ?_;show(match rOr _ _ _ _ with | .next e=>_|r=>Rt _ r:Prop)
  rw[jQ cl rfl];exact⟨.exc CE,rfl,λ⟨n,h,_⟩=>(by rw[hi]at h;cases h),λ_=>rfl⟩
 |some n =>
  rw[hi]at cl;have st:rOr fD (aJ (gM C CE) [] (aA (fIx (aD 0) (fC (.int 0))) aF)) (aW 1 (fNX (aJ (gM C CE) [] (aA (fIx (aD 0) (fC (.int 0))) aF)))) [oF (.lst ((a::mid++[z]).map SS)),none,none,none]=.next [oF (.lst ((a::mid++[z]).map SS)),oT (.int n),none,none]:=by
   rw[gG cl (λC e=>by cases e)];unfold aW;rw[eL cl (λC e=>by cases e)];rfl
  refine Z61 ?_;show(match rOr _ _ _ _ with | .next e=>_|r=>Rt _ r:Prop)
  rw[st];show Wp (aL _ _ [oF (.lst ((a::mid++[z]).map SS)),oT (.int n),none,none]) _;refine hU (d:=.lst []) rfl ?_;show Wp (aL _ _ [oF (.lst ((a::mid++[z]).map SS)),oT (.int n),oT (.lst []),none]) _;have sq:fZ (fSl (aD 0) (fP (fC (.int 1))) (fP (fC (.int (-1))))) [oF (.lst ((a::mid++[z]).map SS)),oT (.int n),oT (.lst []),none]=some (mid.map SS):=by rw[ev_seq,Z9h rfl]
  have rowc:∀(i:Nat) (rs:Ab D) (l:Ab Nat) (x:Aa (Bool×D)),l∈mid->rs.length=i->∃d,aJ (kL C CE) [] (aA (aD 3) (aA (fI0 (λi j=>.int (i+j)) (aD 1) (fB1 bG (aA (aD 2) aF))) aF)) [oF (.lst ((a::mid++[z]).map SS)),oT (.int n),oT (.lst rs),oF (SS l)]=some d/\(vK (n+(i:Int)) l=true->d=zM l/\Tpl d)/\(vK (n+(i:Int)) l=false->d=.exc CE):=by
   intro i rs l x hlm hrs;obtain⟨d,h1,h2,h3⟩:=S8 (C:=C) (CE:=CE) (n:=n+(i:Int)) (hm l hlm);refine⟨d,?_,λq=>⟨h2 q,by rw[h2 q];exact Z4g q⟩,h3⟩;refine aP (xs:=[SS l,.int (n+(i:Int))]) (aI rfl (aI (Z8o (j:=(i:Int)) rfl ?_) rfl)) h1;rw[cN (xs:=[.lst rs]) rfl (show bG [.lst rs]=some (.int (i:Int)) by simp only[bG,hrs])]
  by_cases hrows:∀(i:Nat) l,mid[i]?=some l->vK (n+(i:Int)) l=true
  .refine Z1g sq (λi env=>∃rs x,env=[oF (.lst ((a::mid++[z]).map SS)),oT (.int n),oT (.lst rs),x]/\rs.length=i/\i<=60/\(∀d∈rs,Tpl d)/\rs=(mid.take i).map zM) ⟨[],none,rfl,rfl,by omega,(λd h=>by cases h),rfl⟩ ?_ ?_
   .rintro i d env R hd ⟨rs,x,rfl,hr,hi60,ht,hrs⟩ hR;obtain⟨l,hw,rfl⟩:=iO hd;obtain⟨d,c1,c2,_⟩:=rowc i rs l x (QaT hw) hr;obtain⟨ed,ds,rfl,hf⟩:=c2 (hrows i l hw);have hi2:i<mid.length:=(Qac.mp hw).1;refine⟨_,rfl,?_⟩;show R (rOr _ _ _ [oF (.lst ((a::mid++[z]).map SS)),oT (.int n),oT (.lst rs),oF (SS l)]);rw[gG c1 (λC e=>by cases e),jR (eL c1 (λC e=>by cases e)) rfl (by omega)];exact hR _ ⟨rs++[.tup ds],_,rfl,by simp[hr],by omega,λd hd=>by
     rcases Qah.mp hd with q|q
     .exact ht d q
     .rw[Qay.mp q];exact⟨ds,rfl,hf⟩,by rw[Qbe,hw,QaI,<- hrs,ed];rfl⟩
   .rintro env ⟨rs,x,rfl,hr,hi60,ht,hrs⟩;rw[Qab]at hr;obtain⟨d,h1,h2,h3⟩:=K3 (C:=C) (CE:=CE) (n:=n+(mid.length:Int)) hz;have c1:aJ (jA C CE) [] (aA (fIx (aD 0) (fC (.int (-1)))) (aA (fI0 (λi j=>.int (i+j)) (aD 1) (fB1 bG (aA (aD 2) aF))) aF)) [oF (.lst ((a::mid++[z]).map SS)),oT (.int n),oT (.lst rs),x]=some d:=by
     refine aP (xs:=[SS z,.int (n+(mid.length:Int))]) (aI (Z7w rfl) (aI (Z8o (j:=(mid.length:Int)) rfl ?_) rfl)) h1;rw[cN (xs:=[.lst rs]) rfl (show bG [.lst rs]=some (.int (mid.length:Int)) by simp only[bG,hr])]
    show Rt _ (rOr _ _ _ _);cases ho:B7 (n+(mid.length:Int)) z with
    |true =>
     obtain rfl:=h2 ho;rw[gG c1 (λC e=>by cases e)];refine⟨Z7h C n rs (((Wds z).drop 1).map dvI),?_,λ_=>⟨n,rfl,by rw[hrs,Qab,QaW]⟩,λq=>absurd ⟨n,hi,hrows,ho⟩ q⟩;unfold bA;rw[cN (xs:=[.int n,.lst rs,LI (((Wds z).drop 1).map dvI)]) (aI rfl (aI rfl (aI (eL c1 (λC e=>by cases e)) rfl))) (Z7q (by omega) ht)];rfl
    |false =>
     rw[h3 ho]at c1;rw[jQ c1 rfl];refine⟨.exc CE,rfl,λ⟨n',q1,q2,q3⟩=>?_,λ_=>rfl⟩;rw[hi]at q1;cases q1;rw[ho]at q3;cases q3
  .refine⟨.exc CE,?_,λ⟨n',q1,q2,q3⟩=>?_,λ_=>rfl⟩
   .refine Z6u sq (λi env=>∃rs x,env=[oF (.lst ((a::mid++[z]).map SS)),oT (.int n),oT (.lst rs),x]/\rs.length=i/\∀(j:Nat) l,j<i->mid[j]?=some l->vK (n+(j:Int)) l=true) ⟨[],none,rfl,rfl,λj l h=>by omega⟩ ?_ ?_
    .rintro i d env hd ⟨rs,x,rfl,hr,ht⟩;obtain⟨l,hw,rfl⟩:=iO hd;obtain⟨d,c1,c2,c3⟩:=rowc i rs l x (QaT hw) hr;have hi2:i<mid.length:=(Qac.mp hw).1;refine⟨_,rfl,?_⟩;cases hb:vK (n+(i:Int)) l with
     |true =>
      left;obtain⟨_,ds,rfl,hf⟩:=c2 hb;refine⟨[oF (.lst ((a::mid++[z]).map SS)),oT (.int n),oT (.lst (rs++[.tup ds])),oF (SS l)],.inl ?_,_,_,rfl,by simp[hr],λj l' hj h'=>?_⟩
      .show rOr _ _ _ [oF (.lst ((a::mid++[z]).map SS)),oT (.int n),oT (.lst rs),oF (SS l)]=_;rw[gG c1 (λC e=>by cases e),jR (eL c1 (λC e=>by cases e)) rfl (by omega)];rfl
      .by_cases hji:j=i
       .subst hji;rw[hw]at h';cases h';exact hb
       .exact ht j l' (by omega) h'
     |false =>
      right;left;refine⟨.exc CE,?_,rfl⟩;rw[c3 hb]at c1;show rOr _ _ _ [oF (.lst ((a::mid++[z]).map SS)),oT (.int n),oT (.lst rs),oF (SS l)]=_;exact jQ c1 rfl
    .rintro env ⟨rs,x,rfl,hr,ht⟩;rw[Qab]at ht;exact absurd (λi l h=>ht i l (Qac.mp h).1 h) hrows
   .rw[hi]at q1;cases q1;exact absurd q2 hrows
def iD(h:m<10):cF m=[48+m]:=by
 have a:∀d:Fin 10,(Nat.digitChar d).toNat=48+d:=by decide
 unfold cF;rw[Nat.toDigits_of_lt_base h];exact congrArg (λz=>[z]) (a ⟨m,h⟩)
def oX(h:10<=m):cF m=cF (m/10)++[48+m%10]:=by
 have a:m%10<10:=Nat.mod_lt m (by decide);have t:Nat.toDigits 10 (m/10)++Nat.toDigits 10 (m%10)=Nat.toDigits 10 (10*(m/10)+m%10):=Nat.toDigits_append_toDigits (by decide) (by omega) a;rw[Nat.div_add_mod]at t;rw[<- iD a];unfold cF;rw[<- t,QaI]
def xP(m:Nat):∀c∈cF m,48<=c/\c<58:=by
 induction m using Nat.strongRecOn with
 |_ m ih =>
  intro c hc;by_cases h:m<10
  .rw[iD h]at hc;have:=Qay.mp hc;omega
  .rw[oX (by omega)]at hc;rcases Qah.mp hc with z|z
   .exact ih (m/10) (by omega) c z
   .have:=Qay.mp z;omega
def M3(m:Nat):cF m≠[]:=by
 by_cases h:m<10
 .rw[iD h];simp
 .rw[oX (by omega)];simp
theorem rO:∀(k m:Nat),m<10^(k+1)->(cF m).length<=k+1
 |0,m,h=>by rw[iD (by omega)];simp
 |k+1,m,h=>by
  by_cases h1:m<10
  .rw[iD h1];simp
  .have:=rO k (m/10) (by rw[Qbi]at h;omega);rw[oX (by omega),Qav,QaN];omega
def Z2P(m:Nat):(cF m).head?=some 48->m=0:=by
 induction m using Nat.strongRecOn with
 |_ m ih =>
  intro a;by_cases h:m<10
  .rw[iD h]at a;simp only[List.head?_cons,Qbk]at a;omega
  .rw[oX (by omega)]at a;have b:=M3 (m/10);cases e:cF (m/10) with
   |nil=>exact absurd e b
   |cons c r =>
    have:=ih (m/10) (by omega) (by rw[e]at a ⊢;simpa using a);omega
def rN(m:Nat):dvI (cF m)=(m:Int):=by unfold dvI cF;rw[PySem.W.KIN.val_back]
def Z1H(h:m<1000000000):okN (cF m)=true:=by
 have h1:=rO 8 m (by omega);have h2:=M3 m;have h3:(cF m).all dig=true:=QaS.mpr λc hc=>by have:=xP m c hc;unfold dig;exact Rj (by omega)
 unfold okN;rw[h3,Ri h2,Rj h1];by_cases a:(cF m).head?=some 48
 .have:=Z2P m a;subst this;decide
 .rw[Ri a];rfl
def Z7j(m:Nat):Z7k (m:Int)=mkS (cF m):=by rw[<- Z4Y (Z7k (m:Int)),Z2O]
def Z9U{n:Int}(a:0<=n)(h1:n<1000000000):(if n.natAbs.log2<1920 then some (D.str (Str.ofString (toString n))) else none)=some (SS (cF n.toNat)):=by
 have:n.natAbs.log2<1920:=by
  rcases Nat.eq_zero_or_pos n.natAbs with z|z
  .rw[z];decide
  .rw[Nat.log2_lt (Nat.ne_of_gt z)];have h1:n.natAbs<1000000000:=by omega
   exact Qau h1 (QaE (show 1000000000<=2^30 by decide) (Qa0 (by decide) (by decide)))
 rw[if_pos this];obtain⟨m,rfl⟩:=Int.eq_ofNat_of_zero_le a;show some (D.str (Z7k (m:Int)))=_;rw[Z7j];rfl
def D6{n:Int}(a:0<=n)(h1:n<1000000000):pL [.int n]=some (SS (cF n.toNat)):=Z9U a h1
def Z0W{n:Int}(a:0<=n)(h1:n<1000000000):sJ [.int n]=some (SS (cF n.toNat)):=Z9U a h1
def Wo(k:Nat)(l:Ab Nat):Prop:=(∀c∈l,c<128/\c≠32)/\l≠[]/\l.length<=k
def wH(h:m<10^(k+1)):Wo (k+1) (cF m):=⟨λc hc=>by have:=xP m c hc;omega,M3 m,rO k m h⟩
def Wo.ls(h:Wo k l)(a:k<=400):Ls l:=⟨λc hc=>(h.1 c hc).1,QaE h.2.2 a⟩
def Wo.mono(h:Wo k l)(a:k<=k'):Wo k' l:=⟨h.1,h.2.1,QaE h.2.2 a⟩
def jn:Ab (Ab Nat)->Ab Nat
 |[]=>[]
 |w::ws=>lG w ws
theorem zZ:∀{ws:Ab (Ab Nat)},(∀w∈ws,Wo k w)->(ws.flatMap λv=>32::v).length<=ws.length*(k+1)
 |[],_=>by simp
 |w::ws,h=>by
  have h1:=zZ (ws:=ws) λv hv=>h v (Qaa _ hv);have h2:=(h w Qai).2.2;simp only[List.flatMap_cons,Qav,Qaf,Nat.add_mul,Nat.one_mul];omega
def W0(h:∀w∈ws,Wo k w)(f:ws.length*(k+1)<=400):Ls (jn ws):=by
 cases ws with
 |nil=>exact⟨λc hc=>(by cases hc),by decide⟩
 |cons w ws =>
  have h1:=zZ (ws:=ws) λv a=>h v (Qaa _ a);have hw:=h w Qai;refine⟨λc hc=>?_,?_⟩
  .rcases Qah.mp hc with z|z
   .exact(hw.1 c z).1
   .obtain⟨v,a,b⟩:=List.mem_flatMap.mp z;rcases Qad.mp b with rfl|q
    .decide
    .exact((h v (Qaa _ a)).1 c q).1
  .show(w++ws.flatMap λv=>32::v).length<=400;have:=hw.2.2;simp only[Qaf,Nat.add_mul,Nat.one_mul]at f;rw[Qav];omega
def yC(h:∀w∈ws,Wo k w)(a:ws≠[]):Wds (jn ws)=ws:=by
 cases ws with
 |nil=>exact absurd rfl a
 |cons w ws=>exact uQ (λz=>((h w Qai).1 32 z).2 rfl) λv hv z=>((h v (Qaa _ hv)).1 32 z).2 rfl
def Z3S(ws:Ab (Ab Nat)):pP (ws.map SS)=some (ws.map mkS):=by
 induction ws with
 |nil=>rfl
 |cons w ws ih=>show(pP (ws.map SS)).map _=_;rw[ih];rfl
def pE(h:∀w∈ws,Wo k w)(f:ws.length*(k+1)<=400){env:En}{fa:En->Aa D}(b:fa env=some (.lst (ws.map SS))):nB (kS " ") fa env=some (SS (jn ws)):=by
 have hs:∀{us:Ab (Ab Nat)},(∀w∈us,Wo k w)->((us.map mkS).map (·.length)).sum<=us.length*k:=by
  intro us
  induction us with
  |nil=>intro _;simp
  |cons w us ih =>
   intro a;have h1:=ih λv hv=>a v (Qaa _ hv);have h2:=(a w Qai).2.2;simp only[Qat,List.sum_cons,Qaf,lF,Nat.add_mul,Nat.one_mul];omega
 have n:=hs h;have j:((ws.map mkS).map (·.length)).sum+(ws.map mkS).length*(Str.ofString " ").length<=1000000:=by
  rw[yY];show _+_*1<=_;rw[Nat.mul_add,Nat.mul_one]at f;rw[Qab,Nat.mul_one];omega
 have i:Txt.join (Str.ofString " ") (ws.map mkS)=mkS (jn ws):=by
  rw[yY];cases ws with
  |nil=>rfl
  |cons w ws =>
   rw[Qat,Z30,cZ,Qa8];show mkS (lG w (ws.map λl=>(mkS l).cps.toList))=mkS (lG w ws);congr 2
   conv=>rhs;rw[<- List.map_id ws]
   exact List.map_congr_left λl _=>cZ l
 unfold nB;rw[b];simp only[fC,Z3S,j,Rl,i];rfl
theorem Z5e:∀(ws:Ab (Ab Nat)),inD (SS k) (ws.map SS)=some (decide (k∈ws))
 |[]=>rfl
 |w::ws=>by
  have e:eqN 8 (SS w) (SS k)=some (decide (w=k)):=by
   show eqN 8 (.str (mkS w)) (.str (mkS k))=_;rw[eqN_str,pB]
  rw[Qat];unfold inD;rw[e,Z5e ws];simp only[Qbk,Qad,Bool.decide_or];congr 1;exact decide_eq_decide.mpr eq_comm
def Y0{ws:Ab (Ab Nat)}{env:En}{fa:En->Aa D}(a:fa env=some (.lst (ws.map SS))):fIn (kS "") fa env=some (decide ([]∈ws)):=by
 unfold fIn;rw[a];show inD (.str "") (ws.map SS)=_;rw[Z1r];exact Z5e ws
def M0(h:Ls l):fJ C CL [SS l]=some (if okN l=true then .int (dvI l) else .exc CL):=by
 have f:=rS (C:=C) h;have b:kT (fB (aJ (gR C) [] (aA (aD 0) aF))) [oF (SS l)]=some (!okN l):=by
  rw[ev_Not,ev_B,aP (xs:=[SS l]) rfl f];rfl
 refine S4 ?_;show Wp (nZ C CL [oF (SS l)]) _;unfold nZ;cases a:okN l with
 |false=>exact wI (by rw[b,a];rfl) rfl
 |true =>
  refine wNo (by rw[b,a];rfl) ?_;show noX (bA _ _)=_;unfold bA;rw[cN (xs:=[SS l]) rfl (Z8l a)];rfl
abbrev FORMS:Ab (Ab Key×Ab Str):=[([.inr "give",.inl 1],["number"]),([.inr "stuck",.inl 3],["number","bit","number"]),([.inr "leg",.inl 4],["number","bit","bit","number"]),([.inr "faults",.inl 0],[]),([.inr "idle",.inl 0],[]),([.inr "tells",.inl 2],["number","bit"]),([.inr "tells",.inl 3],["number","bit","bit"]),([.inr "lean",.inl 0],[])]
def okK(p:Ab Nat×Str):Bool:=okN p.1 && !(decide (p.2=Str.ofString "bit")&&decide (1<dvI p.1))
def Z5Y{α β a:Type}{f:α×β->a}{xs:Ab α}{ys:Ab β}{i:Nat}{c:a}(h:((xs.zip ys).map f)[i]?=some c):∃p,(xs.zip ys)[i]?=some p/\c=f p:=by
 rw[QaD]at h;obtain⟨p,h1,h2⟩:=Option.map_eq_some_iff.mp h;exact⟨p,h1,h2.symm⟩
theorem Z3B:∀(ws:Ab (Ab Nat)) (ks:Ab Str),zC [.lst (ws.map SS),.tup (ks.map D.str)]=some ((ws.zip ks).map λp=>.tup [SS p.1,.str p.2])
 |[],ks=>rfl
 |w::ws,[]=>rfl
 |w::ws,k::ks=>by
  have:=Z3B ws ks;simp only[zC,Qbk]at this;simp only[zC,Qat,nG,List.zip_cons_cons,this]
theorem rM{C CL:Af}{w:Ab Nat}{ws:Ab (Ab Nat)}(h:∀l∈ws,Ls l)(hl:ws.length<=400)(hf:∀ks,lkT FORMS [.inr (mkS w),.inl (ws.length:Int)]=some ks->ks.length=ws.length) :
  dI C CL [.lst ((w::ws).map SS)]=some (match lkT FORMS [.inr (mkS w),.inl (ws.length:Int)] with|some ks=>if (ws.zip ks).all okK=true then LI (ws.map dvI) else .exc CL|none=>.exc CL):=by
 refine S4 ?_;show Wp (iH C CL [oF (.lst ((w::ws).map SS)),none,none,none,none,none]) _;unfold iH;have e1:fB1 (Z9 FORMS) (aA (fT (aA (aZ (fIx (aD 0) (fC (.int 0)))) (aA (fI0 (λi j=>.int (i-j)) (fB1 bG (aA (aD 0) aF)) (fC (.int 1))) aF))) aF) [oF (.lst ((w::ws).map SS)),none,none,none,none,none]=some (match lkT FORMS [.inr (mkS w),.inl (ws.length:Int)] with|some ss=>.tup (ss.map D.str)|none=>.non):=by
  refine cN (xs:=[.tup [SS w,.int (ws.length:Int)]]) (aI ?_ rfl) rfl;have a1:aZ (fIx (aD 0) (fC (.int 0))) [oF (.lst ((w::ws).map SS)),none,none,none,none,none]=some (SS w):=by rw[ev_Flat,lI (w:=w) (ws:=ws) rfl];rfl
  have a2:fI0 (λi j=>.int (i-j)) (fB1 bG (aA (aD 0) aF)) (fC (.int 1)) [oF (.lst ((w::ws).map SS)),none,none,none,none,none]=some (.int (ws.length:Int)):=by
   rw[ev_I0',Z50 (ws:=w::ws) rfl,ev_C];simp only[Qaf];congr 2;omega
  unfold fT;rw[show aA (aZ (fIx (aD 0) (fC (.int 0)))) (aA (fI0 (λi j=>.int (i-j)) (fB1 bG (aA (aD 0) aF)) (fC (.int 1))) aF) [oF (.lst ((w::ws).map SS)),none,none,none,none,none]=some [SS w,.int (ws.length:Int)] from aI a1 (aI a2 rfl)]
  rfl
 refine hU e1 ?_;cases hk:lkT FORMS [.inr (mkS w),.inl (ws.length:Int)] with
 |none=>exact wI rfl rfl
 |some ks =>
  have hkl:=hf ks hk;dsimp only;refine wNo rfl ?_;refine hU (d:=.lst []) rfl ?_;show aL _ _ [oF (.lst ((w::ws).map SS)),oT (.tup (ks.map D.str)),oT (.lst []),none,none,none]=_;have ez:sB1 zC (aA (fSl (aD 0) (fP (fC (.int 1))) fE) (aA (aD 1) aF)) [oF (.lst ((w::ws).map SS)),oT (.tup (ks.map D.str)),oT (.lst []),none,none,none]=some ((ws.zip ks).map λp=>.tup [SS p.1,.str p.2]):=by
   refine gU (xs:=[.lst (ws.map SS),.tup (ks.map D.str)]) (aI (qR (w:=w) rfl) rfl) ?_;exact Z3B ws ks
  refine Z6u ez (λi env=>∃x y z,env=[oF (.lst ((w::ws).map SS)),oF (.tup (ks.map D.str)),oT (LI ((ws.take i).map dvI)),x,y,z]/\((ws.zip ks).take i).all okK=true) ⟨none,none,none,rfl,rfl⟩ ?_ ?_
  .rintro i d env hd ⟨x,y,z,rfl,ha⟩;obtain⟨⟨l,k⟩,hp,rfl⟩:=Z5Y hd;have hz:=List.getElem?_zip_eq_some.mp hp;have hL:=h l (QaT hz.1);have no:=M0 (C:=C) (CL:=CL) hL;refine⟨_,rfl,?_⟩;have cl:∀z,aJ (fJ C CL) [] (aA (aD 3) aF) [oF (.lst ((w::ws).map SS)),oF (.tup (ks.map D.str)),oT (LI ((ws.take i).map dvI)),oF (SS l),oF (.str k),z]=some (if okN l=true then .int (dvI l) else .exc CL):=λz=>aP (xs:=[SS l]) rfl no;cases hn:okN l with
   |false =>
    right;left;have nb:(ws.zip ks).all okK=false:=wA hp (by unfold okK;rw[hn];rfl);refine⟨.exc CL,?_,by rw[nb];rfl⟩;have c1:=cl z;rw[hn]at c1;show aL _ _ [oF (.lst ((w::ws).map SS)),oF (.tup (ks.map D.str)),oT (LI ((ws.take i).map dvI)),oF (SS l),oF (.str k),z]=_;unfold aL;rw[jQ c1 rfl]
   |true =>
    have c1:=cl z;rw[hn,if_pos rfl]at c1;have s1:rOr fD (aJ (fJ C CL) [] (aA (aD 3) aF)) (aW 5 (fNX (aJ (fJ C CL) [] (aA (aD 3) aF)))) [oF (.lst ((w::ws).map SS)),oF (.tup (ks.map D.str)),oT (LI ((ws.take i).map dvI)),oF (SS l),oF (.str k),z]=.next [oF (.lst ((w::ws).map SS)),oF (.tup (ks.map D.str)),oT (LI ((ws.take i).map dvI)),oF (SS l),oF (.str k),oT (.int (dvI l))]:=by
     rw[gG c1 (λC e=>by cases e)];unfold aW;rw[eL c1 (λC e=>by cases e)];rfl
    have eb:iJ (fEq (aD 4) (fC (.str "bit"))) (fBI (λi j=>decide (j<i)) (aD 5) (fC (.int 1))) [oF (.lst ((w::ws).map SS)),oF (.tup (ks.map D.str)),oT (LI ((ws.take i).map dvI)),oF (SS l),oF (.str k),oT (.int (dvI l))]=some (decide (k=Str.ofString "bit")&&decide (1<dvI l)):=by
     have a1:fEq (aD 4) (fC (.str "bit")) [oF (.lst ((w::ws).map SS)),oF (.tup (ks.map D.str)),oT (LI ((ws.take i).map dvI)),oF (SS l),oF (.str k),oT (.int (dvI l))]=some (decide (k=Str.ofString "bit")):=by
      show eqN 8 (.str k) (.str "bit")=_;rw[eqN_str];congr 1
     rw[ev_And,a1];cases decide (k=Str.ofString "bit")<;>rfl
    cases hb:(decide (k=Str.ofString "bit")&&decide (1<dvI l)) with
    |true =>
     right;left;have nb:(ws.zip ks).all okK=false:=wA hp (by unfold okK;rw[hn,hb];rfl);refine⟨.exc CL,?_,by rw[nb];rfl⟩;refine Q8 s1 ?_;unfold aL rIf;rw[eb,hb];rfl
    |false =>
     left;have kb:okK (l,k)=true:=by unfold okK;rw[hn,hb];rfl
     refine⟨[oF (.lst ((w::ws).map SS)),oF (.tup (ks.map D.str)),oT (LI ((ws.take (i+1)).map dvI)),oF (SS l),oF (.str k),oT (.int (dvI l))],.inl ?_,_,_,_,rfl,Z7 hp ha kb⟩;refine Q8 s1 ?_;refine sNo (by rw[eb,hb]) ?_;have hlen:(((ws.take i).map dvI).map D.int).length<=1000:=by rw[Qab,Qab,QaR];omega
     show noX (iA 2 (aZ (aD 5)) [oF (.lst ((w::ws).map SS)),oF (.tup (ks.map D.str)),oT (LI ((ws.take i).map dvI)),oF (SS l),oF (.str k),oT (.int (dvI l))])=_;rw[jR (d:=.int (dvI l)) rfl rfl hlen];show Res.next _=_;rw[Qbe,hz.1];simp[LI]
  .rintro env' ⟨x,y,z,rfl,ha⟩;have hzl:((ws.zip ks).map λp=>D.tup [SS p.1,.str p.2]).length=ws.length:=by rw[Qab,List.length_zip,hkl,Nat.min_self]
   rw[hzl,show(ws.zip ks).take ws.length=ws.zip ks from Qbf (by rw[List.length_zip];omega)]at ha
   rw[hzl,QaW,ha];rfl
def lL(i:ns.length<=100):eG C [LI ns]=some (.tup (.str (if ns.length=2 then "wire" else "leg")::ns.map D.int)):=by
 have f:bG [LI ns]=some (.int (ns.length:Int)):=by simp only[bG,LI,Qab]
 have a:fEq (fB1 bG (aA (aD 0) aF)) (fC (.int 2)) [oF (LI ns),none]=some (decide (ns.length=2)):=by
  rw[ev_Eq,cN (xs:=[LI ns]) rfl f,ev_C];dsimp only;rw[eqN_int];congr 1;exact decide_eq_decide.mpr (by omega)
 refine bS ?_;show qL C [oF (LI ns),none]=_;unfold qL;refine mB (d:=.str (if ns.length=2 then "wire" else "leg")) ?_ ?_
 .rw[ev_If,a];by_cases h:ns.length=2
  .rw[Rj h,if_pos h];rfl
  .rw[Ri h,if_neg h];rfl
 generalize (if ns.length=2 then("wire" : Str) else "leg")=k;have b:flats (.str k::ns.map D.int)=true:=by
  show(flat (.str k)&&flats (ns.map D.int))=true;rw[dC ns];rfl
 refine cR (cN (xs:=[.lst (.str k::ns.map D.int)]) (aI ?_ rfl) (by simp only[jN,b,Rl]));show oJ (cW (aA (aZ (aD 1)) aF)) (aD 0) [oF (LI ns),oT (.str k)]=_;rw[ev_CatF];show(if (flats [.str k]=true/\flats (ns.map D.int)=true)/\[D.str k].length+(ns.map D.int).length<=1000 then some (D.lst ([.str k]++ns.map D.int)) else none)=_;rw[if_pos ⟨⟨rfl,dC ns⟩,by simp only[Qab,Qaf,Qa2];omega⟩];rfl
def eI(ls:Ab (Ab (Ab Nat)))(w:Ab Nat):Ab (Ab (Ab Nat)):=if w=[47] then ls++[[]] else ls.dropLast++[ls.getLastD []++[w]]
def Z0P(ws:Ab (Ab Nat)):Ab (Ab (Ab Nat)):=ws.foldl eI [[]]
def Z3T(ls:Ab (Ab (Ab Nat)))(w:Ab Nat):eI ls w≠[]:=by unfold eI;split<;>simp
def G6:Str.ofString "/" = mkS [47]:=by decide +kernel
def LW(ls:Ab (Ab (Ab Nat))):Ab D:=ls.map λl=>.lst (l.map SS)
def Z2g(ls:Ab (Ab (Ab Nat)))(w:Ab Nat):(eI ls w).length<=ls.length+1:=by
 unfold eI;split
 .simp
 .rw[Qav,List.length_dropLast,QaN];omega
theorem uD:∀(ws:Ab (Ab Nat)) (ls:Ab (Ab (Ab Nat))),(ws.foldl eI ls).length<=ls.length+ws.length
 |[],ls=>by simp
 |w::ws,ls=>by
  have h1:=uD ws (eI ls w);have h2:=Z2g ls w;simp only[List.foldl_cons,Qaf];omega
def Z3U{P:Ab Nat->Prop}{n:Nat}{ls:Ab (Ab (Ab Nat))}{w:Ab Nat}(h:∀l∈ls,(∀v∈l,P v)/\l.length<=n)(hw:P w):∀l∈eI ls w,(∀v∈l,P v)/\l.length<=n+1:=by
 intro l a;unfold eI at a;split at a
 .rcases Qah.mp a with z|z
  .exact⟨(h l z).1,Nat.le_succ_of_le (h l z).2⟩
  .rw[Qay.mp z];exact⟨λv hv=>(by cases hv),by simp⟩
 .rcases Qah.mp a with z|z
  .exact⟨(h l (List.dropLast_subset _ z)).1,Nat.le_succ_of_le (h l (List.dropLast_subset _ z)).2⟩
  .rw[Qay.mp z];have b:(∀v∈ls.getLastD [],P v)/\(ls.getLastD []).length<=n:=by
    cases hq:ls.getLast? with
    |none=>rw[List.getLastD_eq_getLast?,hq];exact⟨λv hv=>(by cases hv),by simp⟩
    |some g=>rw[List.getLastD_eq_getLast?,hq];exact h g (List.mem_of_getLast? hq)
   refine⟨λv hv=>?_,by rw[Qav,QaN];omega⟩;rcases Qah.mp hv with z|z
   .exact b.1 v z
   .rw[Qay.mp z];exact hw
theorem yK{P:Ab Nat->Prop}:∀(ws:Ab (Ab Nat)) (n:Nat) (ls:Ab (Ab (Ab Nat))),(∀w∈ws,P w)->(∀l∈ls,(∀v∈l,P v)/\l.length<=n)->∀l∈ws.foldl eI ls,(∀v∈l,P v)/\l.length<=n+ws.length
 |[],n,ls,_,h=>h
 |w::ws,n,ls,hw,h=>by
  have:=yK ws (n+1) (eI ls w) (λv hv=>hw v (Qaa _ hv)) (Z3U h (hw w Qai));intro l f;obtain⟨a,b⟩:=this l f;exact⟨a,by simp only[Qaf];omega⟩
theorem X3:∀(ws:Ab (Ab Nat)) {ls:Ab (Ab (Ab Nat))},ls≠[]->ws.foldl eI ls≠[]
 |[],ls,h=>h
 |w::ws,ls,h=>X3 ws (Z3T ls w)
def P7(a b:Ab (Ab (Ab Nat))):LW (a++b)=LW a++LW b:=by unfold LW;rw[QaI]
theorem uK(hne:ws≠[])(h:∀w∈ws,Wo k w)(hl:ws.length*(k+1)<=400):dN C CL [.lst (ws.map SS)]=some (.lst ((Z0P ws).map λl=>SS (jn l))):=by
 have hl1:ws.length<=400:=QaE (Nat.le_mul_of_pos_right _ (by omega)) hl;have hin:=yK (P:=Wo k) ws 0 [[]] h (λl hl=>by rw[Qay.mp hl];exact⟨λv hv=>(by cases hv),by simp⟩);have hgl:=uD ws [[]];simp only[QaN]at hgl;refine bS ?_;show jM C CL [oF (.lst (ws.map SS)),none,none]=_;unfold jM;refine sNo ?_ ?_
 .cases ws with
  |nil=>exact absurd rfl hne
  |cons w ws=>rfl
 refine rB ?_ (λC e=>by cases e);refine mB (d:=.lst [.lst []]) rfl ?_;refine qV (ds:=ws.map SS) rfl (λi env=>∃x,env=[oF (.lst (ws.map SS)),oT (.lst (LW ((ws.take i).foldl eI [[]]))),x]) ⟨none,rfl⟩ ?_ ?_
 .rintro i d env hd ⟨x,rfl⟩;obtain⟨w,hw,rfl⟩:=iO hd;have hL:=uD (ws.take i) [[]];have hin':=yK (P:=Wo k) (ws.take i) 0 [[]] (λv hv=>h v (List.mem_of_mem_take hv)) (λl hl=>by rw[Qay.mp hl];exact⟨λv hv=>(by cases hv),by simp⟩);have hne':=X3 (ws.take i) (ls:=[[]]) (by simp);have hst:(ws.take (i+1)).foldl eI [[]]=eI ((ws.take i).foldl eI [[]]) w:=by rw[Qbe,hw,List.foldl_append];rfl
  have hti:(ws.take i).length<=400:=by rw[QaR];omega
  generalize (ws.take i).foldl eI [[]]=L at *
  simp only[QaN]at hL;have e1:=eqS (w:=w) G6 (show aD 2 [oF (.lst (ws.map SS)),oT (.lst (LW L)),oF (SS w)]=some (SS w) from rfl)
  refine⟨_,[oF (.lst (ws.map SS)),oT (.lst (LW (eI L w))),oF (SS w)],rfl,?_,oF (SS w),by rw[hst]⟩;show rIf _ _ _ [oF (.lst (ws.map SS)),oT (.lst (LW L)),oF (SS w)]=_;unfold rIf;rw[e1];by_cases hs:w=[47]
  .rw[Rj hs];show iA 1 (cW aF) _=_;rw[jR (d:=.lst []) rfl rfl (by unfold LW;rw[Qab];omega)];unfold eI;rw[if_pos hs,P7];rfl
  .rw[Ri hs];obtain⟨L0,g,rfl⟩:∃L0 g,L=L0++[g]:=by
    rcases List.eq_nil_or_concat L with z|⟨L0,g,z⟩
    .exact absurd z hne'
    .exact⟨L0,g,by rw[z,List.concat_eq_append]⟩
   have hg:=(hin' g (by simp)).2;have e2:eI (L0++[g]) w=L0++[g++[w]]:=by
    unfold eI;rw[if_neg hs,List.dropLast_concat,List.getLastD_concat]
   have e3:ixN (LW (L0++[g])).length (-1)=some L0.length:=by
    unfold ixN LW;rw[Qab,Qav,QaN,if_neg (by decide),if_pos (by omega)];congr 1;omega
   have e4:(LW (L0++[g]))[L0.length]?=some (.lst (g.map SS)):=by
    rw[P7,QaQ (by unfold LW;rw[Qab];exact Qap _)];unfold LW;rw[Qab,Nat.sub_self];rfl
   have e5:(LW (L0++[g])).set L0.length (.lst (g.map SS++[SS w]))=LW (L0++[g++[w]]):=by
    have hl0:(LW L0).length=L0.length:=by unfold LW;rw[Qab]
    rw[P7,P7,List.set_append_right _ _ (by omega),hl0,Nat.sub_self];unfold LW;simp
   show oS 1 (fC (.int (-1))) (aZ (aD 2)) [oF (.lst (ws.map SS)),oT (.lst (LW (L0++[g]))),oF (SS w)]=_;unfold oS;rw[show aZ (aD 2) [oF (.lst (ws.map SS)),oT (.lst (LW (L0++[g]))),oF (SS w)]=some (SS w) from rfl]
   show(match ixN (LW (L0++[g])).length (-1) with|some j=>_|none=>_)=_
   rw[e3];show(match (LW (L0++[g]))[L0.length]? with|some (.lst es)=>_|_=>_)=_
   rw[e4];show(if (g.map SS).length<=1000/\flats (g.map SS)=true/\flat (SS w)=true then _ else _)=_;rw[if_pos ⟨by rw[Qab];omega,kQ g,rfl⟩,e5,e2];rfl
 .rintro env ⟨x,rfl⟩;rw[Qab,QaW];show bA _ _=_;refine cR ?_;rw[cO (λl=>.lst (l.map SS)) (λl=>SS (jn l)) (xs:=ws.foldl eI [[]]) rfl (by omega) (λl hl'=>by
   obtain⟨a,b⟩:=hin l hl';rw[Qbh]at b;exact pE a (QaE (Nat.mul_le_mul_right _ b) hl) rfl)]
  rfl
def kNew:Ab Nat:=[110,101,119]
def kGive:Ab Nat:=[103,105,118,101]
def mV:Ab Nat:=[115,116,117,99,107]
def M8:Ab Nat:=[108,101,103]
def kTells:Ab Nat:=[116,101,108,108,115]
def Z0K:Ab Nat:=[110,97,109,101,100]
def Z46:Str.ofString "new" = mkS kNew:=by decide +kernel
def Z0i:Str.ofString "give" = mkS kGive:=by decide +kernel
def G4:Str.ofString "stuck" = mkS mV:=by decide +kernel
def Z47:Str.ofString "leg" = mkS M8:=by decide +kernel
def Z1q:Str.ofString "tells" = mkS kTells:=by decide +kernel
def Z6o:Str.ofString "named" = mkS Z0K:=by decide +kernel
theorem Z8y{C CL:Af}{k:Nat}{ws:Ab (Ab Nat)}(hne:ws≠[])(h:∀w∈kNew::ws,Wo k w)(hl:(kNew::ws).length*(k+1)<=400):bQ C CL [SS (jn (kNew::ws))]=some (.tup [.str "new",.lst ((Z0P ws).map λl=>SS (jn l))]):=by
 have hw:=yC h (by simp);have cl:=uK (C:=C) (CL:=CL) hne (λw hw=>h w (Qaa _ hw)) (QaE (Nat.mul_le_mul_right _ (by simp)) hl);refine S4 ?_;show Wp (gD C CL [oF (SS (jn (kNew::ws))),none,none]) _;unfold gD;refine hU (nJ (W0 h hl) rfl) ?_;rw[hw];show Wp (aL _ _ [oF (SS (jn (kNew::ws))),oT (.lst ((kNew::ws).map SS)),none]) _;have e0:([]:Ab Nat)∉kNew::ws:=λz=>(h [] z).2.1 rfl;refine wNo (by rw[Y0 rfl,Ri e0]) ?_;have e1:=eqS (w:=kNew) Z46 (lI (w:=kNew) (ws:=ws) (fa:=aD 1) (env:=[oF (SS (jn (kNew::ws))),oT (.lst ((kNew::ws).map SS)),none]) rfl);have c1:aJ (dN C CL) [] (aA (fSl (aD 1) (fP (kI 1)) fE) aF) [oF (SS (jn (kNew::ws))),oT (.lst ((kNew::ws).map SS)),none]=some (.lst ((Z0P ws).map λl=>SS (jn l))):=aP (xs:=[.lst (ws.map SS)]) (aI (qR (w:=kNew) rfl) rfl) cl;refine wI (by rw[e1];rfl) ?_;refine Z61 ?_;show(match rOr _ _ _ [oF (SS (jn (kNew::ws))),oT (.lst ((kNew::ws).map SS)),none]with | .next e=>_|r=>_:Prop)
 rw[gG c1 (λC e=>by cases e)];unfold bA;have c2:fT (aA (kS "new") (aA (fNX (aJ (dN C CL) [] (aA (fSl (aD 1) (fP (kI 1)) fE) aF))) aF)) [oF (SS (jn (kNew::ws))),oT (.lst ((kNew::ws).map SS)),none]=some (.tup [.str "new",.lst ((Z0P ws).map λl=>SS (jn l))]):=by
  rw[ev_Tup,aI (d:=.str "new") rfl (aI (eL c1 (λC e=>by cases e)) rfl)];rfl
 rw[c2];rfl
theorem Z69{C CL:Af}{k:Nat}{w0:Ab Nat}{ws:Ab (Ab Nat)}{ns:Ab Int}{r:D}(h:∀w∈w0::ws,Wo k w)(hl:(w0::ws).length*(k+1)<=400)(h1:w0≠kNew)(h2:w0≠Z0K)(hb:dI C CL [.lst ((w0::ws).map SS)]=some (LI ns))(hr:∀C,r ≠ .exc C)
  (hq:∀x,(aL (rIf (fEq (fIx (aD 1) (fC (.int 0))) (fC (.str "give"))) (bA (fT (aA (fC (.str "give")) (aA (fC .non) (aA (aZ (fIx (aD 2) (fC (.int 0)))) aF))))) aX)
  (aL (rIf (fOr (fEq (fIx (aD 1) (fC (.int 0))) (fC (.str "stuck"))) (fEq (fIx (aD 1) (fC (.int 0))) (fC (.str "leg")))) (bA (fT (aA (fC (.str "give")) (aA (aJ (eG C) [] (aA (fSl (aD 2) fE (fP (fC (.int (-1))))) aF)) (aA (aZ (fIx (aD 2) (fC (.int (-1))))) aF))))) aX)
  (aL (rIf (fEq (fIx (aD 1) (fC (.int 0))) (fC (.str "tells"))) (bA (fT (aA (fC (.str "tells")) (aA (aJ (eG C) [] (aA (aD 2) aF)) aF)))) aX)
  (bA (fT (aA (aZ (fIx (aD 1) (fC (.int 0)))) aF)))))) [x,oT (.lst ((w0::ws).map SS)),oT (LI ns)]=.ret r) :
  bQ C CL [SS (jn (w0::ws))]=some r:=by
 have hw:=yC h (by simp);refine S4 ?_;show Wp (gD C CL [oF (SS (jn (w0::ws))),none,none]) _;unfold gD;refine hU (nJ (W0 h hl) rfl) ?_;rw[hw];show Wp (aL _ _ [oF (SS (jn (w0::ws))),oT (.lst ((w0::ws).map SS)),none]) _;have e0:([]:Ab Nat)∉w0::ws:=λz=>(h [] z).2.1 rfl;refine wNo (by rw[Y0 rfl,Ri e0]) ?_;have e1:=eqS (w:=w0) Z46 (lI (w:=w0) (ws:=ws) (fa:=aD 1) (env:=[oF (SS (jn (w0::ws))),oT (.lst ((w0::ws).map SS)),none]) rfl);have e2:=eqS (w:=w0) Z6o (lI (w:=w0) (ws:=ws) (fa:=aD 1) (env:=[oF (SS (jn (w0::ws))),oT (.lst ((w0::ws).map SS)),none]) rfl);refine wNo (by rw[e1,Ri h1]) ?_;refine wNo (by rw[e2,Ri h2]) ?_;have c1:aJ (dI C CL) [] (aA (aD 1) aF) [oF (SS (jn (w0::ws))),oT (.lst ((w0::ws).map SS)),none]=some (LI ns):=aP (xs:=[.lst ((w0::ws).map SS)]) rfl hb;refine Z61 ?_;show(match rOr _ _ _ _ with | .next e=>_|r=>_:Prop)
 rw[gG c1 (λC e=>by cases e)];unfold aW;rw[eL c1 (λC e=>by cases e)];show nL _ [oF (SS (jn (w0::ws))),oT (.lst ((w0::ws).map SS)),oT (LI ns)]=_;exact rB (hq _) hr
def on_wire(h:-(2^64)<o/\o<2^64\/∀w b,f=.wire w b->b=0\/b=1):fQ C [.int v,.int w,.int o,f.d]=some (.int (bY v w o f)):=by
 cases f with
 |none=>simp[fQ,runF,enStart,mE,Flt.d,PD.flat,bY]
 |wire w' b =>
  by_cases hw:w'=w
  .have a:IntMulOk o b:=h.elim (λz=>lE z.1 z.2) λz=>by rcases z w' b rfl with z|z<;>(subst z;exact oZ (by decide) (by decide))
   simp[fQ,runF,enStart,mE,Flt.d,PD.flat,bY,atI_0,atI_1,atI_2,eqN_str,eqN_int,hw,a]
  .simp[fQ,runF,enStart,mE,Flt.d,PD.flat,bY,atI_0,atI_1,atI_2,eqN_str,eqN_int,hw]
 |leg w' l b =>
  simp[fQ,runF,enStart,mE,Flt.d,PD.flat,bY,atI_0,atI_1,atI_2,eqN_str,eqN_int,Z6p]
def leg_wires(r:Row):eQ C [r.d]=some (LI r.ws):=by
 cases r with
 |fix b=>simp[eQ,runF,enStart,lJ,atI_0,eqN_str,Row.d,LI,Row.ws]
 |not a=>simp[eQ,runF,enStart,lJ,atI_0,eqN_str,Row.d,LI,Row.ws,Z6n,fSl,flats,PD.flat,Z3b,Z0l,mH]
 |bin k a b=>simp[eQ,runF,enStart,lJ,atI_0,eqN_str,Row.d,LI,Row.ws,Z6s,fSl,flats,PD.flat,Z3b,Z0l,mH]
def Z3c(env:En)(he:env=[oF (LI vs)])(ws:Ab Int)(h:∀a∈ws,0<=a/\a<vs.length):eO fTT (aZ (fIx (aD 1) (aD 0))) env (ws.map D.int)=some ((ws.map (nth vs)).map D.int):=by
 subst he;rw[uI D.int (λa=>.int (nth vs a)) ws λa ha=>by simp[LI,gP (h a ha).1 (h a ha).2,PD.flat]];simp[Function.comp_def]
def leg_values(hw:∀a∈r.ws,0<=a/\a<vs.length)(t:∀w' l b,f=.leg w' l b->w'=w->0<=l/\l<r.ws.length)(u:∀w' l b,f=.leg w' l b->IntMulOk o b) :
  dY C [r.d,.int w,LI vs,.int o,f.d]=some (LI (legs r w vs o f)):=by
 have j:r.ws.length<=1000:=by cases r<;>simp[Row.ws]
 have h:∀x:D,cT [2] (fZ (aJ (eQ C) [] (aA (aD 0) aF))) fTT (aZ (fIx (aD 1) (aD 0))) [oF r.d,oF (.int w),oF (LI vs),oF (.int o),oF x,none]=some (LI (r.ws.map (nth vs))):=by
  intro x;simp only[cT,fZ,aJ,aA,aD,aF,Qbb,Qbm,QaH,Qbc,QaP,leg_wires,LI,Qab,j,Rl];rw[Z3c (vs:=vs) (vP [2] _) (by simp[vP,LI]) r.ws hw];rfl
 cases f with
 |none=>simp[dY,runF,enStart,hJ,h,Flt.d,kC,legs]
 |wire w' b=>simp[dY,runF,enStart,hJ,h,Flt.d,kC,legs,atI_0,eqN_str,Z43]
 |leg w' l b =>
  by_cases i:w'=w
  .subst i;obtain⟨q,l1⟩:=t _ l b rfl rfl;have p:=u _ l b rfl;simp only[LI]at h;have n:flats (List.map (D.int ∘ nth vs) r.ws)=true:=by have:=dC (r.ws.map (nth vs));simpa using this
   simp[dY,runF,enStart,hJ,h,Flt.d,kC,legs,atI_0,atI_1,atI_2,atI_3,eqN_str,eqN_int,T5,p,LI,Z57 q (by simpa using l1),n,PD.flat,List.map_set]
  .simp[dY,runF,enStart,hJ,h,Flt.d,kC,legs,atI_0,atI_1,atI_2,eqN_str,eqN_int,i]
def gate_value(h:ls.length=r.ws.length)(i:∀b,r=.fix b->IntMulOk o b):eS C [r.d,LI ls,.int o]=some (.int (iG r ls o)):=by
 cases r with
 |fix b =>
  have:=i b rfl;simp[eS,runF,enStart,jW,Row.d,atI_0,atI_1,PD.flat,eqN_str,this,iG]
 |not a =>
  have f:atI (ls.map D.int) 0=some (.int (nth ls 0)):=gP (by decide) (by simp[Row.ws]at h;omega);simp[eS,runF,enStart,jW,Row.d,atI_0,atI_1,PD.flat,eqN_str,iG,Z6n,LI,f]
 |bin k a b =>
  have f:atI (ls.map D.int) 0=some (.int (nth ls 0)):=gP (by decide) (by simp[Row.ws]at h;omega);have h1:atI (ls.map D.int) 1=some (.int (nth ls 1)):=gP (by decide) (by simp[Row.ws]at h;omega);cases k<;>simp[eS,runF,enStart,jW,Row.d,atI_0,atI_1,PD.flat,eqN_str,iG,Z6s,Z9Y,Z9Z,Z9X,LI,f,h1]
def borne(hs:ss.length+rows.length<=1000)(A:RowsOk ss.length rows)(q:FltOk ss.length rows f) :
  wC C [bE C ins rows outs,LI ss,.int o,f.d]=some (LI (eJ o f (cA o f [] ss) rows)):=by
 have t:∀v w,fQ C [.int v,.int w,.int o,f.d]=some (.int (bY v w o f)):=λv w=>on_wire (.inr q.w);refine bS ?_;unfold Z1S;refine mB (d:=.lst []) (by walk_at "ev") ?_;refine qV (ds:=ss.map D.int) (by walk_at "ev";rfl) (λi env=>∃s,env=[oF (bE C ins rows outs),oF (LI ss),oF (.int o),oF f.d,oT (LI (cA o f [] (ss.take i))),s,none,none,none]) ⟨none,rfl⟩ ?_ ?_
 .rintro i d env hd ⟨s,rfl⟩;obtain⟨x,h,rfl⟩:=iO hd;refine⟨_,_,rfl,?_,oF (.int x),rfl⟩;have hi:i<ss.length:=(Qac.mp h).1;have p:(cA o f [] (ss.take i)).length<=1000:=by rw[fH];simp;omega
  rw[gJ h,mK];simp[iA,bG,LI,t,p,QaI]
 rintro env ⟨s1,rfl⟩;rw[Qab,QaW];refine qV (X5 (yL (by rfl))) (λi env=>∃s a b c,env=[oF (bE C ins rows outs),oF (LI ss),oF (.int o),oF f.d,oT (LI (eJ o f (cA o f [] ss) (rows.take i))),s,a,b,c]) ⟨s1,none,none,none,rfl⟩ ?_ ?_
 .rintro i d env hd ⟨s,a,b,c,rfl⟩;obtain⟨r,h,rfl⟩:=iO hd;have hi:i<rows.length:=(Qac.mp h).1;have n:(eJ o f (cA o f [] ss) (rows.take i)).length=ss.length+i:=by rw[oR,fH];simp;omega
  generalize hvs:eJ o f (cA o f [] ss) (rows.take i)=vs at n;have j:=A i r h;have y:dY C [r.d,.int (vs.length:Int),LI vs,.int o,f.d]=some (LI (legs r vs.length vs o f)) :=
   leg_values (λa ha=>by rw[n];exact j.ws a ha) (λw' l b e hw=>q.leg w' l b i r e h (by rw[hw,n])) (λw' l b e=>sI (q.l w' l b e))
  have u:eS C [r.d,LI (legs r vs.length vs o f),.int o]=some (.int (iG r (legs r vs.length vs o f) o)):=gate_value (Z51 _ _ _ _ _) (λb e=>sI (by subst e;exact j));refine⟨_,_,rfl,?_,s,oF r.d,oT (.int vs.length),oT (LI (legs r vs.length vs o f)),rfl⟩;have p:vs.length<=1000:=by omega
  rw[gJ h,qA,hvs];simp only[LI]at y u;simp[iA,bG,LI,t,p,QaI,y,u]
 rintro env ⟨s2,a2,b2,c2,rfl⟩;rw[Qab,QaW];rfl
def at_outs(b:outs.length<=1000)(h:∀a∈outs,0<=a/\a<vs.length):pD C [bE C ins rows outs,LI vs]=some (LI (outs.map (nth vs))):=by
 refine bS ?_;show bA _ [oF (bE C ins rows outs),oF (LI vs)]=_;unfold bA;rw[cO D.int (λa=>.int (nth vs a)) (xs:=outs) (X5 (Z5r (by rfl))) b (λa ha=>by simp[vP,LI,gP (h a ha).1 (h a ha).2,PD.flat])];simp[LI,Function.comp_def]
def bits_for(hs:ins+rows.length<=1000)(h:RowsOk ins rows)(n:FltOk ins rows f) :
  kO C [bE C ins rows outs,.int g,f.d]=some (LI (fG ins rows g f)):=by
 have a:(dA ins g).length=ins:=by simp[dA]
 have b:=borne (C:=C) (ins:=ins) (o:=1) (rows:=rows) (outs:=outs) (ss:=dA ins g) (f:=f) (by rw[a];exact hs) (by rw[a];exact h) (by rw[a];exact n);refine bS ?_;unfold yF;have l:cT [1] (sB1 fU (aA (fL C "ins" (aD 0)) aF)) fTT (fI0 (λi j=>.int (Builtin.bitAnd i j)) (fI2 (λ_ j=>0<=j) (λi j=>.int (i/2^j.toNat)) (aD 1) (aD 0)) (kI 1)) [oF (bE C ins rows outs),oF (.int g),oF f.d,none]=some (LI (dA ins g)):=by
  rw[cO (λ(k:Nat)=>.int (k:Int)) (λ(k:Nat)=>.int ((g/2^k)%2)) (xs:=List.range ins) (gU (aI (pH (by rfl)) rfl) (wX (by omega))) (by simp;omega) (λk hk=>by simp[vP,PyProof.Rows.bitAnd_m1])];simp[LI,dA,Function.comp_def]
 refine mB l ?_;exact cR (aP (xs:=[bE C ins rows outs,LI (dA ins g),.int 1,f.d]) rfl b)
abbrev Ho(ins:Nat)(rows:Ab Row)(outs:Ab Int):Prop:=∀a∈outs,0<=a/\a<((ins+rows.length:Nat):Int)
def outs_for(hs:ins+rows.length<=1000)(l:RowsOk ins rows)(i:FltOk ins rows f)(h:outs.length<=1000)(j:Ho ins rows outs) :
  kM C [bE C ins rows outs,.int g,f.d]=some (LI (outs.map (nth (fG ins rows g f)))):=by
 refine bS ?_;have b:aJ (kO C) [] (aA (aD 0) (aA (aD 1) (aA (aD 2) aF))) [oF (bE C ins rows outs),oF (.int g),oF f.d]=some (LI (fG ins rows g f)):=aP (xs:=[bE C ins rows outs,.int g,f.d]) rfl (bits_for hs l i);have n:=at_outs (C:=C) (ins:=ins) (rows:=rows) (outs:=outs) (vs:=fG ins rows g f) h (λa ha=>by rw[Z3w];exact j a ha);exact cR (aP (xs:=[bE C ins rows outs,LI (fG ins rows g f)]) (aI rfl (aI b rfl)) n)
def lZ(n:Nat):(1:Int)*2^(n:Int).toNat=((2^n:Nat):Int):=by rw[Qa4,QaJ];simp
def Z1U(n:Nat):(1:Int)*2^((2^n:Nat):Int).toNat-1=bC (2^n):=by rw[Qa4,QaJ];rfl
def vY(h:n<=8):(0:Int)<=((2^n:Nat):Int)/\((2^n:Nat):Int)<=256 :=
 ⟨Int.natCast_nonneg _,Int.ofNat_le.mpr (show 2^n<=256 from Qa0 (show 0<2 by decide) h)⟩
def full_table{C:Af}{n:Nat}(h:n<=8):hG C [.int n]=some (.int (bC (2^n))):=by
 obtain⟨a,b⟩:=vY h;have f:jO 1 (n:Int):=mF (by omega) (by omega);have p2:jO 1 ((2^n:Nat):Int):=mF a (Int.le_trans b (by decide));have i:=lZ n;have j:=Z1U n;unfold hG rT;clear a b h;walk_at "ev"
def Z1(n:Nat)(b:Nat->Bool):Builtin.Int.intBits (tab n b)<=n:=by
 rw[PySem.intBits_le_iff];unfold tab;have:=gF n b;simpa using this
def Z3u(n:Nat):Builtin.Int.intBits (bC n)<=n:=by rw[<- qS];exact Z1 n _
def input_tables{C:Af}{n:Nat}(h:n<=8):kN C [.int n]=some (LI (inT n)):=by
 refine bS ?_;unfold oE;refine mB (d:=.lst []) (by walk_at "ev") ?_;refine qV (ds:=(List.range n).map λ(k:Nat)=>.int (k:Int)) (gU (xs:=[.int (n:Int)]) (by walk_at "ev") (wX (by omega)))
  (λi env=>∃a b,env=[oF (.int n),oT (LI (inT i)),a,b]) ⟨none,none,rfl⟩ ?_ ?_
 .rintro i d env hd ⟨a,b,rfl⟩;obtain⟨hi,rfl⟩:=gQ hd;obtain⟨f,l⟩:=vY (show i<=8 by omega);have o:∀m:Nat,m=2^i->(m:Int)+((2^i:Nat):Int)<=100000000:=λm e=>by subst e;exact Int.le_trans (Int.add_le_add l l) (by decide)
  have u:jO 1 (i:Int):=mF (by omega) (by omega);have w:=lZ i;have v:=full_table (C:=C) (n:=i) (by omega);refine⟨_,_,rfl,?_,oF (.int i),oT (.int ((2^i:Nat):Int)),rfl⟩;refine mB (d:=.int ((2^i:Nat):Int)) (by clear f l o;walk_at "ev") ?_;refine mB (cO D.int (λt=>.int (Builtin.bitOr t (t*2^(2^i)))) (xs:=inT i) (by rfl) (by rw[fS];omega) (λt ht=>?_)) ?_
  .obtain⟨j,p⟩:=Qa1 ht;have q:j<i:=by have:=(Qac.mp p).1;rwa [fS]at this
   rw[pF i j q]at p;have x:jO t ((2^i:Nat):Int):=by
    rw[<- QaG p];exact O4 (Z1 _ _) f (o _ rfl)
   show fI0 _ (aD 0) _ [oF (.int t),oT (.int ((2^i:Nat):Int))]=_;clear f l o p;walk_at "ev";rw[QaJ]
  .have r:jO (bC (2^i)) ((2^i:Nat):Int):=O4 (Z3u _) f (o _ rfl);refine(jR (d:=.int (bC (2^i)*2^(2^i))) ?_ rfl (by rw[Qab,fS];omega)).trans ?_
   .clear f l o;walk_at "ev";rw[QaJ]
   .simp only[inT,LI,QaI,Qa8,Qat,QaV];rfl
 .rintro env ⟨a,b,rfl⟩;rw[Qab,QaZ];rfl
def Z2c{C:Af}{ins:Nat}{rows:Ab Row}{outs:Ab Int}{f:Flt}(hi:ins<=8)(hs:ins+rows.length<=1000)(h:RowsOk ins rows)(j:FltOk ins rows f) :
  rP C [bE C ins rows outs,f.d]=some (LI (bD ins rows f)):=by
 have a:=fS ins;have b:=borne (C:=C) (ins:=ins) (o:=bC (2^ins)) (rows:=rows) (outs:=outs) (ss:=inT ins) (f:=f) (by rw[a];exact hs) (by rw[a];exact h) (by rw[a];exact j);have it:=input_tables (C:=C) hi;have i:=full_table (C:=C) hi;refine bS (cR (aP (xs:=[bE C ins rows outs,LI (inT ins),.int (bC (2^ins)),f.d]) ?_ b));refine aI rfl (aI (aP (xs:=[.int ins]) (aI (pH (by rfl)) rfl) it) (aI (aP (xs:=[.int ins]) (aI (pH (by rfl)) rfl) i) (aI rfl rfl)))
def pR(hi:ins<=8)(hs:ins+rows.length<=1000)(n:RowsOk ins rows)(i:FltOk ins rows f)(h:outs.length<=1000)(j:Ho ins rows outs) :
  fN C [bE C ins rows outs,f.d]=some (LI (outs.map (nth (bD ins rows f)))):=by
 have b:=Z2c (C:=C) (outs:=outs) hi hs n i;have l:=at_outs (C:=C) (ins:=ins) (rows:=rows) (outs:=outs) (vs:=bD ins rows f) h (λa ha=>by rw[lB];exact j a ha);exact bS (cR (aP (xs:=[bE C ins rows outs,LI (bD ins rows f)]) (aI rfl (aI (aP (xs:=[bE C ins rows outs,f.d]) rfl b) rfl)) l))
theorem zX:∀(outs:Ab Int),nG ((outs.map (nth A)).map D.int) ((outs.map (nth B)).map D.int)=outs.map λa=>.tup [.int (nth A a),.int (nth B a)]
 |[]=>rfl
 |a::outs=>by simp only[Qat,nG];rw[zX outs]
def O3:nV C [LI (outs.map (nth A)),LI (outs.map (nth B))]=some (.int (pO A B outs)):=by
 refine bS ?_;unfold uZ;refine mB (d:=.int 0) (by walk_at "ev") ?_;refine qV (ds:=outs.map λa=>.tup [.int (nth A a),.int (nth B a)]) (gU (xs:=[LI (outs.map (nth A)),LI (outs.map (nth B))]) rfl (by simp only[Z80,LI,zX]))
  (λi env=>∃a b,env=[oF (LI (outs.map (nth A))),oF (LI (outs.map (nth B))),oT (.int (pO A B (outs.take i))),a,b]) ⟨none,none,rfl⟩ ?_ ?_
 .rintro i d env hd ⟨a,b,rfl⟩;obtain⟨x,f,rfl⟩:=iO hd;refine⟨_,_,rfl,?_,oF (.int (nth A x)),oF (.int (nth B x)),rfl⟩;rw[wL f];rfl
 .rintro env ⟨a,b,rfl⟩;rw[Qab,QaW];rfl
def lA(ins:Nat)(rows:Ab Row)(outs:Ab Int)(f:Flt):Int:=pO (bD ins rows .none) (bD ins rows f) outs
def Q3{C:Af}{ins:Nat}{rows:Ab Row}{outs:Ab Int}{fs:Ab Flt}(hi:ins<=8)(hs:ins+rows.length<=1000)(b:RowsOk ins rows)(l:∀f∈fs,FltOk ins rows f)(h:outs.length<=1000)(a:Ho ins rows outs)(i:fs.length<=1000) :
  kK C [bE C ins rows outs,.lst (fs.map Flt.d)]=some (LI (fs.map (lA ins rows outs))):=by
 have j:fN C [bE C ins rows outs,.non]=some (LI (outs.map (nth (bD ins rows .none)))):=pR (f:=.none) hi hs b .no h a;refine bS ?_;unfold yE;refine mB (aP (xs:=[bE C ins rows outs]) rfl j) ?_;refine cR ?_;rw[cO Flt.d (λf=>.int (lA ins rows outs f)) (xs:=fs) (by rfl) i (λf hf'=>?_)]
 .simp[LI,Function.comp_def]
 .have of:=pR (C:=C) (outs:=outs) hi hs b (l f hf') h a;exact aP (xs:=[LI (outs.map (nth (bD ins rows .none))),LI (outs.map (nth (bD ins rows f)))]) (aI rfl (aI (aP (xs:=[bE C ins rows outs,f.d]) rfl of) rfl)) O3
def Z06{C:Af}{ins:Nat}{rows:Ab Row}{outs:Ab Int}{f:Flt}(hi:ins<=8)(hs:ins+rows.length<=1000)(h:RowsOk ins rows)(j:FltOk ins rows f)(i:outs.length<=1000)(b:Ho ins rows outs) :
  tM C [bE C ins rows outs,f.d]=some (.int (lA ins rows outs f)):=by
 have t:=Q3 (C:=C) (fs:=[f]) hi hs h (λg hg=>Qay.mp hg ▸ j) i b (by simp);have l:=Z5q f;have a:aJ (kK C) [] (aA (aD 0) (aA (cW (aA (aZ (aD 1)) aF)) aF)) [oF (bE C ins rows outs),oF f.d]=some (LI [lA ins rows outs f]):=by
  refine aP (xs:=[bE C ins rows outs,.lst [f.d]]) ?_ t;walk_at "ev"
 refine bS (cR ?_);show aZ (fIx (aJ (kK C) [] (aA (aD 0) (aA (cW (aA (aZ (aD 1)) aF)) aF))) (kI 0)) [oF (bE C ins rows outs),oF f.d]=_;simp only[LI,Qat,QaV]at a;simp only[ev_Flat,ev_Ix,a,ev_C,atI_0,PD.flat,Rl]
def mT(t:Int):D:=if t=0 then .non else .int ((Builtin.Int.intBits (Builtin.bitAnd t (-t)):Nat)-1)
def xY:iP C [.int x]=some (mT x):=by
 unfold iP pU mT;by_cases h:x=0
 .subst h;walk_at "ev"
 .walk_at "ev"
def tV(hi:ins<=8)(hs:ins+rows.length<=1000)(i:RowsOk ins rows)(b:FltOk ins rows f)(a:outs.length<=1000)(h:Ho ins rows outs) :
  jK C [bE C ins rows outs,f.d]=some (mT (lA ins rows outs f)):=by
 have t:=Z06 (C:=C) hi hs i b a h;exact bS (cR (aP (xs:=[.int (lA ins rows outs f)]) (aI (aP (xs:=[bE C ins rows outs,f.d]) rfl t) rfl) xY))
def zF(h1:w<((ins+rows.length:Nat):Int)):jU C [bE C ins rows outs,.int w]=some (LI (dF ins rows w)):=by
 have j:=pH (C:=C) (ins:=ins) (rows:=rows) (outs:=outs) (fa:=aD 0) (env:=[oF (bE C ins rows outs),oF (.int w)]) rfl;have fr:=yL (C:=C) (ins:=ins) (rows:=rows) (outs:=outs) (fa:=aD 0) (env:=[oF (bE C ins rows outs),oF (.int w)]) rfl;refine bS ?_;show mW C [oF (bE C ins rows outs),oF (.int w)]=_;unfold mW;by_cases h:w<(ins:Int)
 .rw[C3 h];refine Z0m ?_ (wV rfl);clear fr;walk_at "ev"
 .have i:(w-(ins:Int)).toNat<rows.length:=by omega
  have b:=Qaj i;generalize rows[(w-(ins:Int)).toNat]=r at b;have f:=yZ b (a:=w-(ins:Int)) (by omega);rw[qH (by omega) b];refine sNo (by clear fr f;walk_at "ev") ?_;refine cR (aP (xs:=[r.d]) (aI ?_ rfl) (leg_wires r));walk_at "ev"
def Z9i(h:t=((2^k*(2*m+1):Nat):Int))(a:g<k):¬t/(1*2^g)%2=1:=by
 obtain⟨j,rfl⟩:∃j,k=g+(j+1):=⟨k-g-1,by omega⟩;have e:((2^(g+(j+1))*(2*m+1):Nat):Int)=(2^g:Int)*(2*((2^j*(2*m+1):Nat):Int)):=by
  rw[Nat.pow_add,Qbi];simp only[Int.natCast_mul,Int.natCast_pow];simp only[Int.mul_assoc,Int.mul_comm,Int.mul_left_comm];rfl
 rw[h,e,Qa4,Int.mul_ediv_cancel_left _ (Int.ne_of_gt (Int.pow_pos (by decide)))];omega
def V3(h:t=((2^k*(2*m+1):Nat):Int)):t/(1*2^k)%2=1:=by
 have e:((2^k*(2*m+1):Nat):Int)=(2^k:Int)*((2*m+1:Nat):Int):=by
  simp only[Int.natCast_mul,Int.natCast_pow];rfl
 rw[h,e,Qa4,Int.mul_ediv_cancel_left _ (Int.ne_of_gt (Int.pow_pos (by decide)))];omega
def tW(h:IsT n t)(f:¬t=0):∃k m:Nat,t=((2^k*(2*m+1):Nat):Int)/\k<n/\mT t=.int (k:Int):=by
 have i:=h.nonneg;obtain⟨k,m,e⟩:=U7 t.toNat t.toNat (Qap _) (by omega);have a:t=((2^k*(2*m+1):Nat):Int):=by omega
 refine⟨k,m,a,?_,?_⟩
 .obtain⟨b,rfl⟩:=h;have h1:=gF n b;have h2:2^k<2^n:=by
   refine Nat.lt_of_le_of_lt (Nat.le_mul_of_pos_right (2^k) (show 0<2*m+1 by omega)) ?_;have:tabN n b=2^k*(2*m+1):=by unfold tab at a;omega
   rw[<- this];exact h1
  exact(Nat.pow_lt_pow_iff_right (by decide)).mp h2
 .unfold mT;rw[if_neg f,Z7u a,Z5K];congr 1;omega
def inB(ins:Nat)(rows:Ab Row):Flt->Bool
 | .none=>true
 | .wire w _=>decide (w<((ins+rows.length:Nat):Int))
 | .leg w l _=>decide (w<((ins+rows.length:Nat):Int))&&decide (l<((dF ins rows w).length:Int))
def pS{C CW:Af}{ins:Nat}{rows:Ab Row}{outs:Ab Int}{f:Flt}:dZ C CW [bE C ins rows outs,f.d]=some (if inB ins rows f=true then .non else .exc CW):=by
 have r:=pH (C:=C) (ins:=ins) (rows:=rows) (outs:=outs) (fa:=aD 0) (env:=[oF (bE C ins rows outs),oF f.d]) rfl;have fr:=yL (C:=C) (ins:=ins) (rows:=rows) (outs:=outs) (fa:=aD 0) (env:=[oF (bE C ins rows outs),oF f.d]) rfl;have q:bG [.lst (rows.map Row.d)]=some (.int (rows.length:Int)):=by simp only[bG,Qab]
 have o:fI0 (λi j=>.int (i+j)) (fL C "ins" (aD 0)) (fB1 bG (aA (fL C "rows" (aD 0)) aF)) [oF (bE C ins rows outs),oF f.d]=some (.int ((ins+rows.length:Nat):Int)):=by
  rw[ev_I0',r,cN (xs:=[.lst (rows.map Row.d)]) (aI fr rfl) q];rfl
 cases f with
 |none=>rfl
 |wire w b =>
  have a:fBI (λi j=>decide (j<=i)) (fIx (aD 1) (fC (.int 1))) (fI0 (λi j=>.int (i+j)) (fL C "ins" (aD 0)) (fB1 bG (aA (fL C "rows" (aD 0)) aF))) [oF (bE C ins rows outs),oF ((Flt.wire w b).d)]=some (decide (((ins+rows.length:Nat):Int)<=w)):=by rw[ev_BI,o];rfl
  by_cases h:w<((ins+rows.length:Nat):Int)
  .refine(J9 (e:=[oF (bE C ins rows outs),oF ((Flt.wire w b).d)]) ?_).trans (by simp only[inB,Rj h,Rl]);show aL _ _ [oF (bE C ins rows outs),oF ((Flt.wire w b).d)]=_;refine Q8 (show _=Res.next [oF (bE C ins rows outs),oF ((Flt.wire w b).d)] from rfl) ?_
   refine sNo (by rw[a,Ri (by omega)]) ?_;have n:fEq (fIx (aD 1) (fC (.int 0))) (fC (.str "leg")) [oF (bE C ins rows outs),oF ((Flt.wire w b).d)]=some false:=by
    show eqN 8 (.str "wire") (.str "leg")=_;rw[eqN_str,Z43]
   unfold rIf;rw[ev_And,n];rfl
  .refine bS (d:=_) ?_;show aL _ _ [oF (bE C ins rows outs),oF ((Flt.wire w b).d)]=_;simp only[inB,Ri h];refine Q8 (show _=Res.next [oF (bE C ins rows outs),oF ((Flt.wire w b).d)] from rfl) ?_
   unfold aL rIf;rw[a,Rj (by omega)];rfl
 |leg w l b =>
  have a:fBI (λi j=>decide (j<=i)) (fIx (aD 1) (fC (.int 1))) (fI0 (λi j=>.int (i+j)) (fL C "ins" (aD 0)) (fB1 bG (aA (fL C "rows" (aD 0)) aF))) [oF (bE C ins rows outs),oF ((Flt.leg w l b).d)]=some (decide (((ins+rows.length:Nat):Int)<=w)):=by rw[ev_BI,o];rfl
  have n:fEq (fIx (aD 1) (fC (.int 0))) (fC (.str "leg")) [oF (bE C ins rows outs),oF ((Flt.leg w l b).d)]=some true:=by
   show eqN 8 (.str "leg") (.str "leg")=_;rw[eqN_str,beq_self_eq_true]
  by_cases h:w<((ins+rows.length:Nat):Int)
  .have t:=zF (C:=C) (outs:=outs) h;have p:fBI (λi j=>decide (j<=i)) (fIx (aD 1) (fC (.int 2))) (fB1 bG (aA (aJ (jU C) [] (aA (aD 0) (aA (fIx (aD 1) (fC (.int 1))) aF))) aF)) [oF (bE C ins rows outs),oF ((Flt.leg w l b).d)]=some (decide (((dF ins rows w).length:Int)<=l)):=by
    rw[ev_BI,cN (xs:=[LI (dF ins rows w)]) (aI (aP (xs:=[bE C ins rows outs,.int w]) rfl t) rfl) (show bG [LI (dF ins rows w)]=some (.int ((dF ins rows w).length:Int)) by simp only[bG,LI,Qab])];rfl
   by_cases h2:l<((dF ins rows w).length:Int)
   .refine(J9 (e:=[oF (bE C ins rows outs),oF ((Flt.leg w l b).d)]) ?_).trans (by simp only[inB,Rj h,Rj h2,Bool.and_self,Rl]);show aL _ _ [oF (bE C ins rows outs),oF ((Flt.leg w l b).d)]=_;refine Q8 (show _=Res.next [oF (bE C ins rows outs),oF ((Flt.leg w l b).d)] from rfl) ?_
    refine sNo (by rw[a,Ri (by omega)]) ?_;unfold rIf;rw[ev_And,n];dsimp only;rw[p,Ri (by omega)];rfl
   .refine bS (d:=_) ?_;show aL _ _ [oF (bE C ins rows outs),oF ((Flt.leg w l b).d)]=_;simp only[inB,Ri h2,Bool.and_false];refine Q8 (show _=Res.next [oF (bE C ins rows outs),oF ((Flt.leg w l b).d)] from rfl) ?_
    refine sNo (by rw[a,Ri (by omega)]) ?_;unfold rIf;rw[ev_And,n];dsimp only;rw[p,Rj (by omega)];rfl
  .refine bS (d:=_) ?_;show aL _ _ [oF (bE C ins rows outs),oF ((Flt.leg w l b).d)]=_;simp only[inB,Ri h,Bool.false_and];refine Q8 (show _=Res.next [oF (bE C ins rows outs),oF ((Flt.leg w l b).d)] from rfl) ?_
   unfold aL rIf;rw[a,Rj (by omega)];rfl
def rY(a:0<=g):g/2^n=0↔g<((2^n:Nat):Int):=by
 have b:(0:Int)<2^n:=Int.pow_pos (by decide);rw[show((2^n:Nat):Int)=(2:Int)^n by simp];constructor
 .intro h;have:=Qaq g b;have e:=Int.mul_ediv_add_emod g (2^n);rw[h]at e;omega
 .intro h;exact Int.ediv_eq_zero_of_lt a h
def zP{C CW:Af}{ins:Nat}{rows:Ab Row}{outs:Ab Int}{g:Int}(a:0<=g):gZ C CW [bE C ins rows outs,.int g]=some (if g<((2^ins:Nat):Int) then .non else .exc CW):=by
 have f:=pH (C:=C) (ins:=ins) (rows:=rows) (outs:=outs) (fa:=aD 0) (env:=[oF (bE C ins rows outs),oF (.int g)]) rfl;have b:kT (fEq (fI2 (λ_ j=>0<=j) (λi j=>.int (i/2^j.toNat)) (aD 1) (fL C "ins" (aD 0))) (fC (.int 0))) [oF (bE C ins rows outs),oF (.int g)]=some (!decide (g/2^ins=0)):=by
  rw[ev_Not,ev_Eq,Zay (i:=g) (j:=(ins:Int)) rfl f (by omega),ev_C];dsimp only;rw[eqN_int,QaJ];rfl
 by_cases h:g<((2^ins:Nat):Int)
 .refine(J9 (e:=[oF (bE C ins rows outs),oF (.int g)]) ?_).trans (by rw[if_pos h]);show rIf _ _ _ [oF (bE C ins rows outs),oF (.int g)]=_;unfold rIf;rw[b,Rj ((rY a).mpr h)];rfl
 .refine bS (d:=_) ?_;show rIf _ _ _ [oF (bE C ins rows outs),oF (.int g)]=_;unfold rIf;rw[b,Ri (λz=>h ((rY a).mp z)),if_neg h];rfl
def Z3G(h:Bt x):Wo 1 (cF x.toNat):=wH (k:=0) (by rcases h with z|z<;>(subst z;decide))
def Z19(h:Bt x):0<=x/\x<1000000000:=by rcases h with z|z<;>(subst z;decide)
def Z3Z(xs:Ab Int):Ab Nat:=jn (xs.map λx=>cF x.toNat)
def Z3Y(h:∀x∈xs,Bt x)(b:xs.length<=16){env:En}{src:En->Aa D}(hs:src env=some (LI xs)):nB (kS " ") (cT [] (fZ src) fTT (fB1 pL (aA (aD 0) aF))) env=some (SS (Z3Z xs)):=by
 refine pE (k:=1) (ws:=xs.map λx=>cF x.toNat) (λw hw=>?_) (by rw[Qab];omega) ?_
 .obtain⟨x,a,rfl⟩:=QaL.mp hw;exact Z3G (h x a)
 .rw[cO D.int (λx=>SS (cF x.toNat)) (xs:=xs) (by rw[ev_seq,hs];rfl) (by omega) (λx a=>cN (xs:=[.int x]) rfl (D6 (Z19 (h x a)).1 (Z19 (h x a)).2))];rw[Qa8];rfl
def pQ(n:0<=g)(hs:ins+rows.length<=1000)(i:RowsOk ins rows)(j:inB ins rows f=true->FltOk ins rows f)(p:outs.length<=16)(l:Ho ins rows outs) :
  gY C CW [bE C ins rows outs,f.d,.int g]=some (if inB ins rows f=true/\g<((2^ins:Nat):Int) then SS (Z3Z (outs.map (nth (fG ins rows g f)))) else .exc CW):=by
 have h:aJ (dZ C CW) [] (aA (aD 0) (aA (aD 1) aF)) [oF (bE C ins rows outs),oF f.d,oF (.int g)]=some (if inB ins rows f=true then .non else .exc CW):=aP (xs:=[bE C ins rows outs,f.d]) rfl pS;have b:aJ (gZ C CW) [] (aA (aD 0) (aA (aD 2) aF)) [oF (bE C ins rows outs),oF f.d,oF (.int g)]=some (if g<((2^ins:Nat):Int) then .non else .exc CW):=aP (xs:=[bE C ins rows outs,.int g]) rfl (zP n);refine bS ?_;show mX C CW [oF (bE C ins rows outs),oF f.d,oF (.int g)]=_;unfold mX;by_cases h1:inB ins rows f=true
 .rw[if_pos h1]at h;refine Z5x h (λC e=>by cases e) ?_;by_cases h2:g<((2^ins:Nat):Int)
  .rw[if_pos h2]at b;rw[if_pos ⟨h1,h2⟩];refine Z5x b (λC e=>by cases e) ?_;have of:=outs_for (C:=C) (g:=g) (outs:=outs) hs i (j h1) (by omega) l;have o:aJ (kM C) [] (aA (aD 0) (aA (aD 2) (aA (aD 1) aF))) [oF (bE C ins rows outs),oF f.d,oF (.int g)]=some (LI (outs.map (nth (fG ins rows g f)))):=aP (xs:=[bE C ins rows outs,.int g,f.d]) rfl of;refine rB (cR (Z3Y (λx hx=>?_) (by rw[Qab];exact p) o)) (λC e=>by cases e);obtain⟨a,q,rfl⟩:=QaL.mp hx;exact jI (sH i (j h1)) a
  .rw[if_neg h2]at b;rw[if_neg (λz=>h2 z.2)];exact Z5w b
 .rw[if_neg h1]at h;rw[if_neg (λz=>h1 z.1)];exact Z5w h
def kP(t:Int):D:=match mT t with
 | .int k=>SS (cF k.toNat)
 |_=>.str "none"
def xX(hi:ins<=8)(hs:ins+rows.length<=1000)(b:RowsOk ins rows)(h:inB ins rows f=true->FltOk ins rows f)(n:outs.length<=1000)(j:Ho ins rows outs) :
  gC C CW [bE C ins rows outs,f.d]=some (if inB ins rows f=true then kP (lA ins rows outs f) else .exc CW):=by
 have a:aJ (dZ C CW) [] (aA (aD 0) (aA (aD 1) aF)) [oF (bE C ins rows outs),oF f.d,none]=some (if inB ins rows f=true then .non else .exc CW):=aP (xs:=[bE C ins rows outs,f.d]) rfl pS;refine bS ?_;show lP C CW [oF (bE C ins rows outs),oF f.d,none]=_;unfold lP;by_cases h1:inB ins rows f=true
 .rw[if_pos h1]at a ⊢;refine Z5x a (λC e=>by cases e) ?_;have lt:=tV (C:=C) hi hs b (h h1) n j;have p:IsT (2^ins) (lA ins rows outs f):=A3 (iU b .no) (iU b (h h1)) outs;refine rB (mB (aP (xs:=[bE C ins rows outs,f.d]) rfl lt) ?_) (λC e=>by unfold kP at e;split at e<;>cases e);show bA _ [oF (bE C ins rows outs),oF f.d,oT (mT (lA ins rows outs f))]=_;refine cR ?_;by_cases i:lA ins rows outs f=0
  .rw[i];have o:mT 0=.non:=rfl;unfold kP;rw[o];rfl
  .obtain⟨k,m,_,q,l⟩:=tW p i;have r:2^ins<=256:=QaE (Qa0 (by decide) hi) (by decide);unfold kP;rw[l];show fIf _ _ _ [oF (bE C ins rows outs),oF f.d,oT (.int (k:Int))]=_;rw[ev_If];show fB1 pL (aA (aD 2) aF) [oF (bE C ins rows outs),oF f.d,oT (.int (k:Int))]=_;rw[cN (xs:=[.int (k:Int)]) rfl (D6 (by omega) (by omega))]
 .rw[if_neg h1]at a ⊢;exact Z5w a
def vG(h:gY C CW [c,fd,.int g]=some d):jB C CW [c,.tup [.str "give",fd,.int g]]=some d:=by
 refine bS ?_;show oG C CW [oF c,oF (.tup [.str "give",fd,.int g])]=_;unfold oG;have a:fEq (fX 1 0) (kS "give") [oF c,oF (.tup [.str "give",fd,.int g])]=some true:=by
  show eqN 8 (.str "give") (.str "give")=_;rw[eqN_str,beq_self_eq_true]
 unfold aL rIf;rw[a];dsimp only;rw[Z8c (aP (xs:=[c,fd,.int g]) rfl h)]
def P5(h:gC C CW [c,fd]=some d):jB C CW [c,.tup [.str "tells",fd]]=some d:=by
 refine bS ?_;show oG C CW [oF c,oF (.tup [.str "tells",fd])]=_;unfold oG;have a:fEq (fX 1 0) (kS "give") [oF c,oF (.tup [.str "tells",fd])]=some false:=by
  show eqN 8 (.str "tells") (.str "give")=_;rw[eqN_str,show((Str.ofString "tells")==(Str.ofString "give"))=false by decide +kernel]
 have b:fEq (fX 1 0) (kS "tells") [oF c,oF (.tup [.str "tells",fd])]=some true:=by
  show eqN 8 (.str "tells") (.str "tells")=_;rw[eqN_str,beq_self_eq_true]
 refine sNo a ?_;unfold aL rIf;rw[b];dsimp only;rw[Z8c (aP (xs:=[c,fd]) rfl h)]
def bW(CD:Af)(c:D):D:=.obj CD ["circuit"] [c]
def Z6m{C CL CE CW CD a:Af}{l:Ab Nat}{ls:D}{c0 c:D}(n:bQ C CL [SS l]=some (.tup [.str "new",ls]))(j:qF C CE [ls]=some c)(b:∀C,c ≠ .exc C)(i:pln c=true) :
  uT C CL CE CW CD a (bW CD c0) [SS l]=some (.str "ok",bW CD c):=by
 have h:aJ (bQ C CL) [] (aA (aD 1) aF) [oF (.fn a [] []),oF (SS l),none]=some (.tup [.str "new",ls]):=aP (xs:=[SS l]) rfl n;refine qX ?_;show W7 C CL CE CW CD a [oF (.fn a [] []),oF (SS l),none] [bW CD c0]=_;unfold W7;refine rV (e:=[oF (.fn a [] []),oF (SS l),oT (.tup [.str "new",ls])]) (w1:=[bW CD c0]) ?_ ?_
 .rw[qZ h (λC e=>by cases e)];refine tJ ?_;unfold gS aW;rw[eL h (λC e=>by cases e)];rfl
 refine Zat ?_ ?_
 .show eqN 8 (.str "new") (.str "new")=_;rw[eqN_str,beq_self_eq_true]
 have f:aJ (qF C CE) [] (aA (fIx (aD 2) (fC (.int 1))) aF) [oF (.fn a [] []),oF (SS l),oT (.tup [.str "new",ls])]=some c:=aP (xs:=[ls]) rfl j;refine rV (e:=[oF (.fn a [] []),oF (SS l),oT (.tup [.str "new",ls])]) (w1:=[bW CD c]) ?_ ?_
 .rw[qZ f b];refine tJ (Z4r (d:=c) (ns:=["circuit"]) (ds:=[c0]) (o:=false) ?_ (by decide) i rfl ?_)
  .unfold gPl;rw[eL f b];rfl
  .simp[mO]
 .exact V0 (Z9r rfl) (λC e=>by cases e)
def G2{C CL CE CW CD a:Af}{l:Ab Nat}{k:Str}{xs:Ab D}{c d:D}(o:bQ C CL [SS l]=some (.tup (.str k::xs)))(h1:(k==Str.ofString "new")=false)(h2:(k==Str.ofString "lean")=false)(p:jB C CW [c,.tup (.str k::xs)]=some d) :
  uT C CL CE CW CD a (bW CD c) [SS l]=some (d,bW CD c):=by
 have h:aJ (bQ C CL) [] (aA (aD 1) aF) [oF (.fn a [] []),oF (SS l),none]=some (.tup (.str k::xs)):=aP (xs:=[SS l]) rfl o;refine qX ?_;show W7 C CL CE CW CD a [oF (.fn a [] []),oF (SS l),none] [bW CD c]=_;unfold W7;refine rV (e:=[oF (.fn a [] []),oF (SS l),oT (.tup (.str k::xs))]) (w1:=[bW CD c]) ?_ ?_
 .rw[qZ h (λC e=>by cases e)];refine tJ ?_;unfold gS aW;rw[eL h (λC e=>by cases e)];rfl
 have i:fIx (aD 2) (fC (.int 0)) [oF (.fn a [] []),oF (SS l),oT (.tup (.str k::xs))]=some (.str k):=by
  rw[ev_Ix];exact atI_0 _ _
 refine gNo ?_ ?_
 .rw[ev_Eq,i,ev_C];dsimp only;rw[eqN_str,h1]
 refine gNo ?_ ?_
 .rw[ev_Eq,i,ev_C];dsimp only;rw[eqN_str,h2]
 have j:Z0x a [oF (.fn a [] []),oF (SS l),oT (.tup (.str k::xs))] [bW CD c]=[oF (bW CD c),oF (SS l),oT (.tup (.str k::xs))]:=by
  simp[Z0x,opn,SS]
 have n:fL CD "circuit" (aD 0) [oF (bW CD c),oF (SS l),oT (.tup (.str k::xs))]=some c:=by
  simp[fL,bW,QaF]
 have b:aJ (jB C CW) [] (aA (fL CD "circuit" (aD 0)) (aA (aD 2) aF)) (Z0x a [oF (.fn a [] []),oF (SS l),oT (.tup (.str k::xs))] [bW CD c])=some d:=by
  rw[j];exact aP (xs:=[c,.tup (.str k::xs)]) (aI n rfl) p
 by_cases f:∃C,d=.exc C
 .obtain⟨q,rfl⟩:=f;exact Z4o b rfl
 .have hd:∀C,d ≠ .exc C:=λC e=>f ⟨C,e⟩;rw[qZ b hd];refine V0 (T4 ?_) hd;unfold gOp;show(fNX (aJ (jB C CW) [] (aA (fL CD "circuit" (aD 0)) (aA (aD 2) aF))) (Z0x a [oF (.fn a [] []),oF (SS l),oT (.tup (.str k::xs))] [bW CD c])).map _=_;rw[eL b hd];rfl
def Z1p{C CL CE CW CD a:Af}{l:Ab Nat}{c d c':D}(h:uT C CL CE CW CD a (bW CD c) [SS l]=some (d,bW CD c'))(hd:∀C,d ≠ .exc C)(b:flat d=true) :
  eV C CL CE CW CD a (bW CD c) [SS l]=some (d,bW CD c'):=by
 refine qX ?_;show oA C CL CE CW CD a [oF (.fn a [] []),oF (SS l),none,none,none,none] [bW CD c]=_;unfold oA;refine lK (d:=.non) rfl (lK (d:=.non) rfl ?_);refine rV (Z2z (xs:=[SS l]) (o:=false) rfl (by decide +kernel) rfl h hd) ?_;refine Zb9 ?_;show rIf _ _ _ [oF (.fn a [] []),oF (SS l),oT .non,oT d,none,none]=_;unfold rIf;show bA (aZ (aD 3)) [oF (.fn a [] []),oF (SS l),oT .non,oT d,none,none]=_;refine cR ?_;rw[ev_Flat];show(if flat d=true then some d else none)=_;rw[if_pos b]
def Z0M{CL CE CW X:Af}{f b a:Bool}{env:En}{fa:En->Aa D}(h:fa env=some (.exc X))(i:CL≠CE)(l:CL≠CW)(j:CE≠CW):(X=CL->pJ [(CL,f),(CE,b),(CW,a)] fa env=some (.bl f))/\(X=CE->pJ [(CL,f),(CE,b),(CW,a)] fa env=some (.bl b))/\(X=CW->pJ [(CL,f),(CE,b),(CW,a)] fa env=some (.bl a)):=by
 unfold pJ;rw[h];refine⟨λe=>?_,λe=>?_,λe=>?_⟩
 .subst e;simp
 .subst e;simp[Qa7,i]
 .subst e;simp[Qa7,l,j]
def sS{C CL CE CW CD a:Af}{l:Ab Nat}{c d c':D}{X:Af}{t1 t2 t3:Bool}{nm:Str}(h:uT C CL CE CW CD a (bW CD c) [SS l]=some (.exc X,bW CD c'))(n:X∈[CL,CE,CW])
  (hi:∀{i f j:Bool}{env:En},aD 2 env=some (.exc X)->pJ [(CL,i),(CE,f),(CW,j)] (aD 2) env=some (.bl (t1&&i||t2&&f||t3&&j)))
  (hs:(t1,t2,t3,nm)=(true,false,false,Str.ofString "line")\/(t1,t2,t3,nm)=(false,true,false,Str.ofString "circuit")\/(t1,t2,t3,nm)=(false,false,true,Str.ofString "wire")) :
  eV C CL CE CW CD a (bW CD c) [SS l]=some (.lst [.str nm],bW CD c'):=by
 refine qX ?_;show oA C CL CE CW CD a [oF (.fn a [] []),oF (SS l),none,none,none,none] [bW CD c]=_;unfold oA;refine lK (d:=.non) rfl (lK (d:=.non) rfl ?_);refine rV (Z2A (xs:=[SS l]) (o:=false) rfl (by decide +kernel) rfl h n (by decide) (by simp) (by simp)) ?_;show cD _ _ [oF (.fn a [] []),oF (SS l),oT (.exc X),oT .non,none,none] _=_;refine N9 (e:=[oF (.fn a [] []),oF (SS l),oT (.exc X),oT .non,none,none]) rfl ?_;refine lK (d:=.lst [.bl t1,.bl t2,.bl t3]) ?_ ?_
 .rw[ev_Lst,aI (hi (by rfl)) (aI (hi (by rfl)) (aI (hi (by rfl)) rfl))];simp
 show cD _ _ [oF (.fn a [] []),oF (SS l),oT (.exc X),oT .non,none,oT (.lst [.bl t1,.bl t2,.bl t3])] _=_;have q:cW (aA (pJ [(CL,false),(CE,false),(CW,false)] (aD 2)) (aA (pJ [(CL,false),(CE,false),(CW,false)] (aD 2)) aF)) [oF (.fn a [] []),oF (SS l),oT (.exc X),oT .non,none,oT (.lst [.bl t1,.bl t2,.bl t3])]=some (.lst [.bl false,.bl false]):=by
  rw[ev_Lst,aI (hi (by rfl)) (aI (hi (by rfl)) rfl)];simp
 refine N9 (e:=[oF (.fn a [] []),oF (SS l),oT (.exc X),oT .non,none,oT (.lst [.bl t1,.bl t2,.bl t3,.bl false,.bl false])]) ?_ ?_
 .unfold iK;rw[q];rfl
 have p:pJ [(CL,true),(CE,true),(CW,true)] (aD 2) [oF (.fn a [] []),oF (SS l),oT (.exc X),oT .non,none,oT (.lst [.bl t1,.bl t2,.bl t3,.bl false,.bl false])]=some (.bl true):=by
  rw[hi (by rfl)];rcases hs with z|z|z<;>(cases z;rfl)
 refine N9 (e:=[oF (.fn a [] []),oF (SS l),oT (.exc X),oT .non,none,oT (.lst [.bl t1,.bl t2,.bl t3,.bl false,.bl false])]) ?_ ?_
 .unfold rIf;rw[ev_Or,ev_Not (b:=fB _),ev_B,p];rcases hs with z|z|z<;>(cases z;rfl)
 refine Z9r ?_;rcases hs with z|z|z<;>(cases z;rfl)
def Z41{C CL CE CW CD a:Af}{l:Ab Nat}{c c':D}{X:Af}{nm:Str}(f:CL≠CE)(i:CL≠CW)(b:CE≠CW)(h:uT C CL CE CW CD a (bW CD c) [SS l]=some (.exc X,bW CD c'))
  (hs:X=CL/\nm=Str.ofString "line" \/ X=CE/\nm=Str.ofString "circuit" \/ X=CW/\nm=Str.ofString "wire"):eV C CL CE CW CD a (bW CD c) [SS l]=some (.lst [.str nm],bW CD c'):=by
 rcases hs with⟨rfl,rfl⟩|⟨rfl,rfl⟩|⟨rfl,rfl⟩
 .exact sS (d:=.non) (t1:=true) (t2:=false) (t3:=false) h (by simp) (λh=>by rw[(Z0M h f i b).1 rfl];simp) (.inl rfl)
 .exact sS (d:=.non) (t1:=false) (t2:=true) (t3:=false) h (by simp) (λh=>by rw[(Z0M h f i b).2.1 rfl];simp) (.inr (.inl rfl))
 .exact sS (d:=.non) (t1:=false) (t2:=false) (t3:=true) h (by simp) (λh=>by rw[(Z0M h f i b).2.2 rfl];simp) (.inr (.inr rfl))
def bT:Flt->Ab Int
 | .none=>[]
 | .wire w b=>[w,b]
 | .leg w l b=>[w,l,b]
def aU(ns:Ab Int):Ab (Ab Nat):=ns.map λn=>cF n.toNat
def Nm(n:Int):Prop:=0<=n/\n<1000000000
def xN(h:∀n∈ns,Nm n):∀w∈aU ns,Wo 9 w:=λw hw=>by
 obtain⟨n,a,rfl⟩:=QaL.mp hw;have:=h n a;exact wH (k:=8) (by unfold Nm at this;omega)
def xO(h:∀n∈ns,Nm n):(aU ns).map dvI=ns:=by
 unfold aU;rw[Qa8]
 conv=>rhs;rw[<- List.map_id ns]
 refine List.map_congr_left λn hn=>?_;have:=h n hn;unfold Nm at this;show dvI (cF n.toNat)=n;rw[rN];omega
def Z7e(h:Nm n)(b:k=Str.ofString "bit" -> n<=1):okK (cF n.toNat,k)=true:=by
 have h1:okN (cF n.toNat)=true:=Z1H (by unfold Nm at h;omega);have h2:dvI (cF n.toNat)=n:=by rw[rN];unfold Nm at h;omega
 unfold okK;rw[h1];dsimp only;rw[h2];by_cases a:k=Str.ofString "bit"
 .have:=b a;rw[Ri (show ¬1<n by omega),Bool.and_false];rfl
 .rw[Ri a];rfl
def U9:¬Str.ofString "number" = Str.ofString "bit":=by decide +kernel
def F9(i:Wo 9 w0)(h1:w0≠kNew)(h2:w0≠Z0K)(b:∀n∈ns,Nm n)(o:ns.length<=10)(u:lkT FORMS [.inr (mkS w0),.inl (ns.length:Int)]=some ks)(j:ks.length=ns.length)(B:(ns.zip ks).all (λp=>decide (p.2=Str.ofString "bit" -> p.1<=1))=true)(v:∀C,r ≠ .exc C)
  (hq:∀x,(aL (rIf (fEq (fIx (aD 1) (fC (.int 0))) (fC (.str "give"))) (bA (fT (aA (fC (.str "give")) (aA (fC .non) (aA (aZ (fIx (aD 2) (fC (.int 0)))) aF))))) aX)
  (aL (rIf (fOr (fEq (fIx (aD 1) (fC (.int 0))) (fC (.str "stuck"))) (fEq (fIx (aD 1) (fC (.int 0))) (fC (.str "leg")))) (bA (fT (aA (fC (.str "give")) (aA (aJ (eG C) [] (aA (fSl (aD 2) fE (fP (fC (.int (-1))))) aF)) (aA (aZ (fIx (aD 2) (fC (.int (-1))))) aF))))) aX)
  (aL (rIf (fEq (fIx (aD 1) (fC (.int 0))) (fC (.str "tells"))) (bA (fT (aA (fC (.str "tells")) (aA (aJ (eG C) [] (aA (aD 2) aF)) aF)))) aX)
  (bA (fT (aA (aZ (fIx (aD 1) (fC (.int 0)))) aF)))))) [x,oT (.lst ((w0::aU ns).map SS)),oT (LI ns)]=.ret r):bQ C CL [SS (jn (w0::aU ns))]=some r:=by
 have a:(aU ns).length=ns.length:=by unfold aU;rw[Qab]
 have t:∀w∈w0::aU ns,Wo 9 w:=λw hw=>by
  rcases Qad.mp hw with rfl|z
  .exact i
  .exact xN b w z
 refine Z69 (k:=9) t (by rw[Qaf,a];omega) h1 h2 ?_ v hq;rw[rM (λl o=>(xN b l o).ls (by decide)) (by omega) (λks' hk'=>by rw[a]at hk' ⊢;rw[u]at hk';cases hk';exact j),a,u];have A:((aU ns).zip ks).all okK=true:=by
  rw[QaS];intro p h;unfold aU at h;rw[List.zip_map_left]at h;obtain⟨q,f,rfl⟩:=QaL.mp h;have h3:=QaS.mp B q f;have y:=(List.of_mem_zip f).1;exact Z7e (b _ y) (of_decide_eq_true h3)
 simp only[A,Rl,xO b]
def lH(hs:s=mkS k){ws:Ab (Ab Nat)}{x y:Aa (Bool×D)}:fEq (fX 1 0) (fC (.str s)) [x,oT (.lst ((w0::ws).map SS)),y]=some (decide (w0=k)):=eqS hs (lI (w:=w0) (ws:=ws) rfl)
def Z6a(a:Nm g):bQ C CL [SS (jn (kGive::aU [g]))]=some (.tup [.str "give",.non,.int g]):=by
 refine F9 (ks:=["number"]) ⟨by decide,by decide,by decide⟩ (by decide) (by decide) (λn hn=>by rw[Qay.mp hn];exact a) (by simp) (by show lkT FORMS [.inr (mkS kGive),.inl 1]=_;decide +kernel) rfl (by simp[U9]) (λC e=>by cases e) λx=>?_;exact Z0m (by rw[lH Z0i];rfl) (wV rfl)
def Z3N(q:f ≠ .none)(o:∀n∈bT f,Nm n)(h:∀n∈(bT f).drop 1,n<=1):bQ C CL [SS (jn (kTells::aU (bT f)))]=some (.tup [.str "tells",f.d]):=by
 have a:∀(ks:Ab Str),lkT FORMS [.inr (mkS kTells),.inl ((bT f).length:Int)]=some ks->ks.length=(bT f).length->((bT f).zip ks).all (λp=>decide (p.2=Str.ofString "bit" -> p.1<=1))=true->eG C [LI (bT f)]=some f.d->bQ C CL [SS (jn (kTells::aU (bT f)))]=some (.tup [.str "tells",f.d]):=by
  intro ks t j r i;refine F9 (ks:=ks) ⟨by decide,by decide,by decide⟩ (by decide) (by decide) o (by cases f<;>simp[bT]) t j r (λC e=>by cases e) λx=>?_;refine sNo (by rw[lH Z0i];rfl) (sNo (by rw[ev_Or,lH G4,lH Z47];rfl) (Z0m (by rw[lH Z1q];rfl) (wV ?_)));rw[ev_Tup,aI (d:=.str "tells") rfl (aI (aP (xs:=[LI (bT f)]) rfl i) rfl)];rfl
 cases f with
 |none=>exact absurd rfl q
 |wire w b=>exact a ["number","bit"] (by show lkT FORMS [.inr (mkS kTells),.inl 2]=_;decide +kernel) rfl (by have:=h b (by simp[bT]);simp[bT,this,U9]) (lL (ns:=[w,b]) (by simp))
 |leg w l b=>exact a ["number","bit","bit"] (by show lkT FORMS [.inr (mkS kTells),.inl 3]=_;decide +kernel) rfl (by have h1:=h b (by simp[bT]);have h2:=h l (by simp[bT]);simp[bT,h1,h2,U9]) (lL (ns:=[w,l,b]) (by simp))
def kOf:Flt->Ab Nat
 | .leg _ _ _=>M8
 |_=>mV
def Z5z(xs:Ab Int)(g:Int):PD.cutD ((xs++[g]).map D.int) none (some (-1))=xs.map D.int:=by
 unfold PD.cutD;have f:((xs++[g]).map D.int).length=xs.length+1:=by simp
 have a:HT.sIx (xs.length+1) (xs.length+1) (some (-1))=xs.length:=by
  show(if (-1:Int)<0 then(-1+((xs.length+1:Nat):Int)).toNat else min (-1:Int).toNat (xs.length+1))=_;rw[if_pos (by decide)];omega
 have b:HT.sIx (xs.length+1) 0 none=0:=rfl;rw[f,a,b];simp
theorem Z3O(hf:f ≠ .none)(hn:∀n∈bT f,Nm n)(hb:∀n∈(bT f).drop 1,n<=1)(hg:Nm g):bQ C CL [SS (jn (kOf f::aU (bT f++[g])))]=some (.tup [.str "give",f.d,.int g]):=by
 have fin:∀(w0:Ab Nat) (ks:Ab Str),w0=kOf f->(w0=mV\/w0=M8)->lkT FORMS [.inr (mkS w0),.inl ((bT f++[g]).length:Int)]=some ks->ks.length=(bT f++[g]).length->((bT f++[g]).zip ks).all (λp=>decide (p.2=Str.ofString "bit" -> p.1<=1))=true->eG C [LI (bT f)]=some f.d->bQ C CL [SS (jn (kOf f::aU (bT f++[g])))]=some (.tup [.str "give",f.d,.int g]):=by
  intro w0 ks hw hw2 hk hkl hz hfo;rw[<- hw];refine F9 (ks:=ks) (by rcases hw2 with z|z<;>(rw[z];exact⟨by decide,by decide,by decide⟩)) (by rcases hw2 with z|z<;>(rw[z];decide)) (by rcases hw2 with z|z<;>(rw[z];decide)) (λn hn'=>?_) (by cases f<;>simp[bT]) hk hkl hz (λC e=>by cases e) λx=>?_
  .rcases Qah.mp hn' with z|z
   .exact hn n z
   .rw[Qay.mp z];exact hg
  have hgv:decide (w0=kGive)=false:=by rcases hw2 with z|z<;>(rw[z];decide)
  have hor:(match some (decide (w0=mV)) with|some false=>some (decide (w0=M8))|some true=>some true|none=>none)=some true:=by rcases hw2 with z|z<;>(rw[z];decide)
  have e1:fSl (aD 2) fE (fP (fC (.int (-1)))) [x,oT (.lst ((w0::aU (bT f++[g])).map SS)),oT (LI (bT f++[g]))]=some (LI (bT f)):=by
   unfold fSl;show(if flats ((bT f++[g]).map D.int)=true then some (D.lst (PD.cutD ((bT f++[g]).map D.int) none (some (-1)))) else none)=_;rw[if_pos (dC _),Z5z];rfl
  have e2:aZ (fIx (aD 2) (fC (.int (-1)))) [x,oT (.lst ((w0::aU (bT f++[g])).map SS)),oT (LI (bT f++[g]))]=some (.int g):=by
   have:fIx (aD 2) (fC (.int (-1))) [x,oT (.lst ((w0::aU (bT f++[g])).map SS)),oT (LI (bT f++[g]))]=some (.int g):=by
    rw[ev_Ix];show atI ((bT f++[g]).map D.int) (-1)=_;rw[QaI];exact Z5 _ _
   rw[ev_Flat,this];rfl
  refine sNo (by rw[lH Z0i,hgv]) (Z0m (by rw[ev_Or,lH G4,lH Z47];exact hor) (wV ?_));rw[ev_Tup,aI (d:=.str "give") rfl (aI (aP (xs:=[LI (bT f)]) (aI e1 rfl) hfo) (aI e2 rfl))];rfl
 cases f with
 |none=>exact absurd rfl hf
 |wire w b=>exact fin mV ["number","bit","number"] rfl (.inl rfl) (by show lkT FORMS [.inr (mkS mV),.inl 3]=_;decide +kernel) rfl (by have:=hb b (by simp[bT]);simp[bT,this,U9]) (lL (ns:=[w,b]) (by simp))
 |leg w l b=>exact fin M8 ["number","bit","bit","number"] rfl (.inr rfl) (by show lkT FORMS [.inr (mkS M8),.inl 4]=_;decide +kernel) rfl (by have h1:=hb b (by simp[bT]);have h2:=hb l (by simp[bT]);simp[bT,h1,h2,U9]) (lL (ns:=[w,l,b]) (by simp))
def Zaj(b:0<=k):qG C [LI ns,.int k]=some (.int (nth ns k)):=by
 have i:bG [.lst (ns.map D.int)]=some (.int (ns.length:Int)):=by simp only[bG,Qab]
 unfold qG Z5l;by_cases h:k<(ns.length:Int)
 .have f:=gP (vs:=ns) b h;simp only[LI];walk_at "ev"
 .have j:=Z7m (l:=ns) (a:=k) (by omega);simp only[LI];walk_at "ev"
def Z1N(hc:Builtin.Int.intBits c<=1048600)(E:0<=k)(n:k<=100000):∃m,0<=m/\m<2147483648/\iF C [.int c,.int k]=some (.int m):=by
 have p:Z1d 10 40:=⟨by decide,by decide,by decide⟩;have p2:jO 1 (31*(k%60)):=mF (by omega) (by omega);have y:jO 1 31:=mF (by decide) (by decide);have m1:IntMulOk 31 (k%60):=lE (by decide) (by decide);have m2:IntMulOk c 1103515245:=oZ (by decide) (by decide);have q:IntMulOk 7919 k:=lE (by decide) (by decide);have r:IntMulOk (7919*k) k:=oZ (by omega) (by omega);have u:(0:Int)<60:=by decide
 have w:(0:Int)<1*2^Int.toNat 31:=by decide
 have i:(0:Int)<2147483629:=by decide
 have x:(0:Int)<2147483587:=by decide
 have a:(0:Int)<2147483647:=by decide
 have t:dD (c-10^Int.toNat 40) (1*2^(31*(k%60)).toNat):=rZ (by omega);by_cases h:(10:Int)^Int.toNat 40<=c
 .refine⟨(c-10^Int.toNat 40)/(1*2^(31*(k%60)).toNat)%(1*2^Int.toNat 31),QaC _ (by decide),Qaq _ (by decide),?_⟩;unfold iF uA;walk_at "ev"
 .have f:=QaC (c*1103515245+7919*k*k+k) (show(2147483647:Int)≠0 by decide);have l:=Qaq (c*1103515245+7919*k*k+k) a;generalize hA:(c*1103515245+7919*k*k+k)%2147483647=A at f l;have o:IntMulOk A A:=lE (by omega) (by omega);have b:=QaC (A*A) (show(2147483629:Int)≠0 by decide);have j:=Qaq (A*A) i;generalize hB:A*A%2147483629=B at b j;have v:IntMulOk B 69621:=oZ (by decide) (by decide);refine⟨B*69621%2147483587,QaC _ (by decide),Int.lt_trans (Qaq _ (by decide)) (by decide),?_⟩;unfold iF uA;walk_at "ev"
def Z7A(u:ns.length<=63)(p:∀c∈ns,Builtin.Int.intBits c<=1048576):∃d,tP C [LI ns,.int 11]=some d/\∃xs:Ab Int,xs.length=11/\(∀x∈xs,0<=x/\x<2147483648)/\d=LI xs:=by
 refine R9 ?_;unfold C9;have o:cT [] (sB1 fU (aA (aD 1) aF)) fTT (fAd (fMu (aD 0) (aD 0)) (kI 1)) [oF (LI ns),oF (.int 11),none,none,none,none,none]=some (LI ((List.range 11).map λ(k:Nat)=>(k:Int)*(k:Int)+1)):=by
  rw[cO (λ(k:Nat)=>.int (k:Int)) (λ(k:Nat)=>.int ((k:Int)*(k:Int)+1)) (xs:=List.range 11) (gU (xs:=[.int 11]) rfl (Z4i (n:=11) rfl (by decide))) (by decide) (λk q=>?_)]
  .simp[LI,Function.comp_def]
  .have:=List.mem_range.mp q;have H:IntMulOk (k:Int) (k:Int):=lE (by omega) (by omega);walk_at "ev"
 refine hU o ?_;have v:=dC ns;have w:cutD (ns.map D.int) none (some 63)=ns.map D.int:=(kU (ns.map D.int) 63).trans (Qbf (by simpa using u));refine hU (d:=LI ns) (by simp only[LI];walk_at "ev") ?_;have t:bG [.lst (ns.map D.int)]=some (.int (ns.length:Int)):=by simp only[bG,Qab]
 refine Z1g (ds:=(List.range (ns.length-2)).map λ(k:Nat)=>.int (2+(k:Int))) (gU (xs:=[.int 2,.int (ns.length:Int)]) (by simp only[LI];walk_at "ev") (ZaZ (by omega) (by decide) (by decide) (by omega) (by omega)))
  (λi env=>∃xs a b c,xs.length=11/\(∀x∈xs,0<=x/\x<2147483648)/\env=[oF (LI ns),oF (.int 11),oT (LI xs),oT (LI ns),a,b,c]) ⟨_,none,none,none,by simp,?_,rfl⟩ ?_ ?_
 .intro x h;obtain⟨k,q,rfl⟩:=QaL.mp h;have q:=List.mem_range.mp q;have h1:(k:Int)*(k:Int)<=11*11:=Int.mul_le_mul (by omega) (by omega) (by omega) (by omega);have h2:0<=(k:Int)*(k:Int):=Int.mul_nonneg (by omega) (by omega);omega
 .rintro i d env R hd ⟨xs,a,b,c,h,hall,rfl⟩ hR;obtain⟨hi,rfl⟩:=gQ hd;refine⟨_,rfl,?_⟩;have y:(0:Int)<11:=by decide
  have l:=QaC (2+(i:Int)) (show(11:Int)≠0 by decide);have G:=Qaq (2+(i:Int)) y;generalize hz:(2+(i:Int))%11=z at l G;refine hU (d:=.int z) (by clear hR hall o v w t p;walk_at "ev") ?_;have B:=gP (vs:=xs) (a:=z) l (by omega);have E:=gP (vs:=ns) (a:=2+(i:Int)) (by omega) (by omega);have r:=M5 (vs:=xs) (a:=z) l (by omega);have f:=M5 (vs:=ns) (a:=2+(i:Int)) (by omega) (by omega);obtain⟨m,J,m1,A⟩:=Z1N (C:=C) (c:=nth ns (2+(i:Int))) (k:=2+(i:Int)) (QaE (p _ f) (by decide)) (by omega) (by omega);have H:IntMulOk (nth xs z) 31:=oZ (by decide) (by decide);refine hU (d:=.int (nth xs z*31+m)) (by simp only[LI];clear hR hall o v w t p r f;walk_at "ev") ?_;have F:(0:Int)<2147483629:=by decide
  refine Z9G (d:=.int ((nth xs z*31+m)%2147483629)) (j:=z) (ds:=xs.map D.int) (by clear hR hall o v w t p r f A B E;walk_at "ev") rfl rfl l (by rw[Qab];omega) (dC _) rfl ?_;refine hR _ ⟨xs.set z.toNat ((nth xs z*31+m)%2147483629),_,_,_,by simpa using h,Z7l _ hall ?_,by simp only[LI,List.map_set];rfl⟩;have K:=QaC (nth xs z*31+m) (show(2147483629:Int)≠0 by decide);have I:=Qaq (nth xs z*31+m) F;omega
 .rintro env ⟨xs,a,b,c,h,hall,rfl⟩;exact Z3I rfl ⟨_,rfl,xs,h,hall,rfl⟩
def Zad(x:Int):∃k:Kd,atI [D.str "and",.str "or",.str "xor",.str "and"] (x%4)=some (.str k.s):=by
 have a:=QaC x (show(4:Int)≠0 by decide);have h1:=Qaq x (show(0:Int)<4 by decide);generalize x%4=y at *
 have:y=0\/y=1\/y=2\/y=3:=by omega
 rcases this with rfl|rfl|rfl|rfl
 .exact⟨.and,rfl⟩
 .exact⟨.or,rfl⟩
 .exact⟨.xor,rfl⟩
 .exact⟨.and,rfl⟩
def RowsOk.snoc(h:RowsOk ins rows)(b:RowOk ((ins+rows.length:Nat):Int) r):RowsOk ins (rows++[r]):=by
 intro k a e;by_cases f:k<rows.length
 .rw[QaB f]at e;exact h k a e
 .rw[QaQ (by omega)]at e;have:k-rows.length=0:=by
   by_cases z:k-rows.length=0
   .exact z
   .rw[Qas (by simp;omega)]at e;cases e
  rw[this]at e;simp at e;subst e;have:k=rows.length:=by omega
  rw[this];exact b
def Z9j{C:Af}{ins:Nat}{xs:Ab Int}(Q:xs.length<=100):∃d,xU C [.int ins,LI xs]=some d/\∃rows:Ab Row,RowsOk ins rows/\rows.length=xs.length/\d=.lst (rows.map Row.d):=by
 refine R9 ?_;unfold W8;refine hU (d:=.lst []) rfl ?_;refine Z1g (ds:=xs.map D.int) rfl (λi env=>∃rows a b c e,RowsOk ins rows/\rows.length=i/\env=[oF (.int ins),oF (LI xs),oT (.lst (rows.map Row.d)),a,b,c,e])
  ⟨[],none,none,none,none,λk r h=>(by simp at h),rfl,rfl⟩ ?_ ?_
 .rintro i d env R hd ⟨rows,a,b,c,e,hr,rfl,rfl⟩ hR;obtain⟨n,x,rfl⟩:=iO hd;have H:=(Qac.mp x).1;refine⟨_,rfl,?_⟩;have u:bG [.lst (rows.map Row.d)]=some (.int (rows.length:Int)):=by simp only[bG,Qab]
  generalize hA:(ins:Int)+(rows.length:Int)=A;have K:0<=A:=by omega
  refine hU (d:=.int A) (by clear hR;walk_at "ev") ?_;have I:dD n 16:=⟨by decide,by decide⟩;have J:dD n 80:=⟨by decide,by decide⟩;have G:(0:Int)<16:=by decide
  have T:(0:Int)<4:=by decide
  have B:(0:Int)<2:=by decide
  have f1:Z81 [.int A,.int 5]=some (.int (if 5<A then 5 else A)):=rfl;generalize hM:(if 5<A then 5 else A)=M at f1;have p:M<=A/\0<=M/\(0<A->0<M):=by rw[<- hM];split<;>omega
  have w:Z3A [.int 1,.int M]=some (.int (if M > 1 then M else 1)):=rfl;generalize hM2:(if M > 1 then M else 1)=M2 at w;have o:0<M2/\(0<A->M2<=A):=by rw[<- hM2];split<;>omega
  have E:Z3A [.int 1,.int A]=some (.int (if A > 1 then A else 1)):=rfl;generalize hM4:(if A > 1 then A else 1)=M4 at E;have l:0<M4/\(0<A->M4<=A):=by rw[<- hM4];split<;>omega
  have p2:=o.1;have y:=l.1;have P:=QaC (n/16) (show M2≠0 by omega);have N:=Qaq (n/16) p2;have O:=QaC (n/80) (show M4≠0 by omega);have U:=Qaq (n/80) y;refine hU (d:=.int (A-1-n/16%M2)) (by clear hR hM hM2 hM4 p o l hA u;walk_at "ev") ?_;refine hU (d:=.int (A-1-n/80%M4)) (by clear hR hM hM2 hM4 p o l hA u f1 w;walk_at "ev") ?_;have j:(rows.map Row.d).length<=1000:=by rw[Qab];omega
  have f:∀r:Row,RowOk A r->R (.next [oF (.int ins),oF (LI xs),oT (.lst (rows.map Row.d++[r.d])),oF (.int n),oT (.int A),oT (.int (A-1-n/16%M2)),oT (.int (A-1-n/80%M4))]):=by
   intro r q;refine hR _ ⟨rows++[r],oF (.int n),oT (.int A),oT (.int (A-1-n/16%M2)),oT (.int (A-1-n/80%M4)),hr.snoc (by rw[show((ins+rows.length:Nat):Int)=A by omega];exact q),by simp,?_⟩;simp only[QaI,Qat,QaV]
  have S:=QaC (n/16) (show(2:Int)≠0 by decide);have w1:=Qaq (n/16) B;obtain⟨t,F⟩:=Zad n;generalize hone:A-1-n/16%M2=one at *
  generalize htwo:A-1-n/80%M4=two at *
  by_cases hc:A=0\/n%16=0
  .refine uM (by
    clear f hR;rcases hc with z|z
    .subst z;walk_at "ev"
    .by_cases v:A=0
     .subst v;walk_at "ev"
     .walk_at "ev") ?_
   refine Z1h (d:=(Row.fix (n/16%2)).d) (by clear f hR;walk_at "ev";rfl) rfl j ?_;exact f (.fix (n/16%2)) (by show _\/_;omega)
  .have v:¬A=0:=λz=>hc (.inl z);have L:¬n%16=0:=λz=>hc (.inr z);refine uN (by clear f hR;walk_at "ev") ?_;by_cases W:n%16<4
   .refine uM (by clear f hR;walk_at "ev") ?_;refine Z1h (d:=(Row.not one).d) (by clear f hR;walk_at "ev";rfl) rfl j ?_;exact f (.not one) (by show _/\_;omega)
   .refine uN (by clear f hR;walk_at "ev") ?_;refine Z1h (d:=(Row.bin t one two).d) (by clear f hR;walk_at "ev";rfl) rfl j ?_;exact f (.bin t one two) (by show(_/\_)/\_;omega)
 .rintro env ⟨rows,a,b,c,e,hr,hl',rfl⟩;exact Z3I rfl ⟨_,rfl,rows,hr,by simpa using hl',rfl⟩
def Z9k(p:0<W):∃d,xV C [.int W,.int n]=some d/\∃outs:Ab Int,0<outs.length/\outs.length<=16/\(∀a∈outs,0<=a/\a<W)/\d=LI outs:=by
 refine R9 ?_;unfold W9;refine hU (d:=LI [W-1]) (by simp only[LI,Qat,QaV];walk_at "ev") ?_;have x:(0:Int)<4:=by decide
 have F:=QaC n (show(4:Int)≠0 by decide);have I:=Qaq n x;obtain⟨k4,j⟩:∃k:Nat,n%4=(k:Int):=⟨(n%4).toNat,by omega⟩;have f:∀{l:Ab Int}{v:Int},(∀a∈l,0<=a/\a<W)->0<=v->v<W->∀a∈l++[v],0<=a/\a<W:=by
  intro l v h1 h2 h3 a o;rcases Qah.mp o with z|z
  .exact h1 a z
  .have:a=v:=by simpa using z
   subst this;exact⟨h2,h3⟩
 refine Z1g (ds:=(List.range k4).map λ(k:Nat)=>.int (k:Int)) (gU (xs:=[.int (n%4)]) (by clear f j;walk_at "ev") (Z4i j (by omega)))
  (λi env=>∃outs a,outs.length=i+1/\(∀a∈outs,0<=a/\a<W)/\env=[oF (.int W),oF (.int n),oT (LI outs),a]) ⟨[W-1],none,rfl,λa o=>(by have h1:a=W-1:=(by simpa using o);omega),rfl⟩ ?_ ?_
 .rintro i d env R hd ⟨outs,a,ho,hall,rfl⟩ hR;obtain⟨hi,rfl⟩:=gQ hd;have dk:dD n ((i:Int)+4):=Z14 (by omega) (by omega);have w:=QaC (n/((i:Int)+4)) (show W≠0 by omega);have t:=Qaq (n/((i:Int)+4)) p;refine⟨_,rfl,?_⟩;refine Z1h (d:=.int (n/((i:Int)+4)%W)) (ds:=outs.map D.int) (by clear hR hall f j;walk_at "ev") rfl (by rw[Qab];omega) ?_;refine hR _ ⟨outs++[n/((i:Int)+4)%W],oF (.int (i:Int)),by simp[ho],f hall w t,?_⟩;simp only[LI,QaI,Qat,QaV];rfl
 rintro env ⟨outs,a,ho,hall,rfl⟩;rw[Qab,QaZ]at ho;have A:dD n 64:=⟨by decide,by decide⟩;have r:dD n 1024:=⟨by decide,by decide⟩;have y:(0:Int)<16:=by decide
 have H:(0:Int)<3:=by decide
 have E:outs.length<=4:=by omega
 refine Z2a (λe=>∃outs a,0<outs.length/\outs.length<=16/\(∀a∈outs,0<=a/\a<W)/\e=[oF (.int W),oF (.int n),oT (LI outs),a]) ?_ ?_
 .by_cases h:n/64%16=0
  .refine uM (by clear f hall;walk_at "ev") ?_;have B:bG [.lst (outs.map D.int)]=some (.int (outs.length:Int)):=by simp only[bG,Qab]
   have u:cT [0,1] (sB1 fU (aA (fSu (kI 16) (fB1 bG (aA (aD 2) aF))) aF)) fTT (fMo (fMu (aD 0) (aD 2)) (aD 1)) [oF (.int W),oF (.int n),oT (LI outs),a]=some (LI ((List.range (16-outs.length)).map λ(k:Nat)=>(k:Int)*n%W)):=by
    rw[cO (λ(k:Nat)=>.int (k:Int)) (λ(k:Nat)=>.int ((k:Int)*n%W)) (xs:=List.range (16-outs.length)) (gU (xs:=[.int (16-(outs.length:Int))]) (by simp only[LI];clear f hall;walk_at "ev") (Z4i (by omega) (by omega))) (by rw[QaZ];omega) (λk q=>?_)]
    .simp[LI,Function.comp_def]
    .have q:=List.mem_range.mp q;have J:IntMulOk (k:Int) n:=lE (by omega) (by omega);show fI2 _ _ _ (aD 1) [oF (.int (k:Int)),oF (.int W),oF (.int n)]=_;clear f hall;walk_at "ev"
   refine Z3H (xs:=outs.map D.int) rfl u (dC _) (by simp;omega) ?_;refine⟨_,rfl,outs++(List.range (16-outs.length)).map (λ(k:Nat)=>(k:Int)*n%W),a,by simp;omega,by simp;omega,λb hb=>?_,?_⟩
   .rcases Qah.mp hb with z|z
    .exact hall b z
    .obtain⟨k,_,rfl⟩:=QaL.mp z;exact⟨QaC _ (by omega),Qaq _ p⟩
   .simp only[LI,QaI];rfl
  .refine uN (by clear f hall;walk_at "ev") ?_;exact⟨_,rfl,outs,a,by omega,by omega,hall,rfl⟩
 rintro _ ⟨outs,a,o1,o2,hall,rfl⟩;refine Z2a (λe=>∃outs a,0<outs.length/\outs.length<=16/\(∀a∈outs,0<=a/\a<W)/\e=[oF (.int W),oF (.int n),oT (LI outs),a]) ?_ ?_
 .by_cases h:n/1024%3=0
  .refine uM (by clear f hall;walk_at "ev") ?_;have G:=dC outs;refine Q2 (d:=LI outs.reverse) (by simp only[LI,List.map_reverse];clear f hall;walk_at "ev") ?_;exact⟨_,rfl,outs.reverse,a,by simpa using o1,by simpa using o2,λb hb=>hall b (List.mem_reverse.mp hb),rfl⟩
  .refine uN (by clear f hall;walk_at "ev") ?_;exact⟨_,rfl,outs,a,o1,o2,hall,rfl⟩
 rintro _ ⟨outs,a,o1,o2,hall,rfl⟩;exact Z3I rfl ⟨_,rfl,outs,o1,o2,hall,rfl⟩
def Z7z{C:Af}{ins i:Nat}(hi:ins<=8)(h:i<ins):mD C [.int ins,.int i]=some (.int (tab (2^ins) λg=>decide (g/2^i%2=1))):=by
 obtain⟨f,b⟩:=vY hi;have l:2^ins<=256:=Int.ofNat_le.mp b;have o:jO 1 (ins:Int):=mF (by omega) (by omega);have t:jO 1 (i:Int):=mF (by omega) (by omega);refine bS ?_;unfold C8;refine mB (d:=.int 0) rfl ?_;refine qV (ds:=(List.range (2^ins)).map λ(k:Nat)=>.int (k:Int)) (gU (xs:=[.int ((1:Int)*2^(ins:Int).toNat)]) (by clear f b l hi h t;walk_at "ev") (Z4i (lZ ins) (by omega)))
  (λj env=>∃a,env=[oF (.int ins),oF (.int i),oT (.int (tab j λg=>decide (g/2^i%2=1))),a]) ⟨none,rfl⟩ ?_ ?_
 .rintro g d env hd ⟨a,rfl⟩;obtain⟨w,rfl⟩:=gQ hd;have v:dD (g:Int) ((1:Int)*2^(i:Int).toNat):=rZ (by omega);have x:(0:Int)<2:=by decide
  have r:((g:Int)/((1:Int)*2^(i:Int).toNat)%2=1)=(g/2^i%2=1):=by
   rw[lZ];apply propext;constructor
   .intro z;exact Int.ofNat.inj (by simpa using z)
   .intro z;have:=congrArg (λ(n:Nat)=>(n:Int)) z;simpa using this
  have u:jO 1 (g:Int):=mF (by omega) (by omega);by_cases q:g/2^i%2=1
  .have p:tab (g+1) (λg=>decide (g/2^i%2=1))=tab g (λg=>decide (g/2^i%2=1))+(1:Int)*2^(g:Int).toNat:=by
    unfold tab;simp only[tabN];simp[q]
   refine⟨_,_,rfl,Z8P (by clear f b l hi h o hd;walk_at "ev") (Z1w (d:=.int (tab g (λg=>decide (g/2^i%2=1))+(1:Int)*2^(g:Int).toNat)) (by clear f b l hi h o hd r;walk_at "ev")),oF (.int g),by rw[p];rfl⟩
  .have p:tab (g+1) (λg=>decide (g/2^i%2=1))=tab g (λg=>decide (g/2^i%2=1)):=by
    unfold tab;simp only[tabN];simp[q]
   refine⟨_,_,rfl,Z6D (by clear f b l hi h o hd;walk_at "ev") rfl,oF (.int g),by rw[p];rfl⟩
 .rintro env ⟨a,rfl⟩;rw[Qab,QaZ];rfl
def Z7B(x:ns.length<=63)(l:∀c∈ns,Builtin.Int.intBits c<=1048576):∃d,tQ C [LI ns]=some d/\∃(ins:Nat) (rows:Ab Row) (outs:Ab Int),ins<=5/\RowsOk ins rows/\rows.length<=10/\0<outs.length/\outs.length<=16/\(Ho ins rows outs)/\0<ins+rows.length/\d=aN ins rows outs:=by
 refine R9 ?_;unfold D4;have a0:=Zaj (C:=C) (ns:=ns) (k:=0) (by decide);have p:=Zaj (C:=C) (ns:=ns) (k:=1) (by decide);generalize nth ns 0=fst at a0;generalize nth ns 1=snd at p;refine hU (d:=.int fst) (aP (xs:=[LI ns,.int 0]) rfl a0) ?_;have N:(0:Int)<4:=by decide
 have J:(0:Int)<6:=by decide
 have E:(0:Int)<11:=by decide
 have M:(0:Int)<2:=by decide
 have d4:dD fst 4:=⟨by decide,by decide⟩;have S:dD fst 36:=⟨by decide,by decide⟩;have L:dD fst 216:=⟨by decide,by decide⟩;have K:=QaC fst (show(4:Int)≠0 by decide);have X:=Qaq fst N;have H:=QaC (fst/4) (show(6:Int)≠0 by decide);have v1:=Qaq (fst/4) J;have w0:=QaC (fst/216) (show(2:Int)≠0 by decide);have w1:=Qaq (fst/216) M;refine Z2a (λe=>∃ins:Nat,ins<=5/\e=[oF (LI ns),oT (.int fst),oT (.int ins),none,none,none]) ?_ ?_
 .by_cases h:fst/36%6=5
  .refine Q2 (d:=.int (fst/4%6)) (by clear l a0 p;walk_at "ev";simp only[P8,Rl];walk_at "ev") ?_;refine⟨_,rfl,(fst/4%6).toNat,by omega,?_⟩;rw[Int.toNat_of_nonneg H];rfl
  .refine Q2 (d:=.int (fst%4)) (by clear l a0 p;walk_at "ev";simp only[P8];walk_at "ev") ?_;refine⟨_,rfl,(fst%4).toNat,by omega,?_⟩;rw[Int.toNat_of_nonneg K];rfl
 rintro _ ⟨ins,hi5,rfl⟩;obtain⟨_,q,xs,U,o,rfl⟩:=Z7A (C:=C) x l;refine hU (d:=LI xs) (aP (xs:=[LI ns,.int 11]) rfl q) ?_;have s0:=QaC snd (show(11:Int)≠0 by decide);have s1:=Qaq snd E;obtain⟨k,Z⟩:∃k:Nat,snd%11=(k:Int):=⟨(snd%11).toNat,by omega⟩;have r:=dC xs;have u:cutD (xs.map D.int) none (some (k:Int))=(xs.take k).map D.int:=by rw[List.map_take];exact kU (xs.map D.int) k
 obtain⟨_,t,rows,f,b,rfl⟩:=Z9j (C:=C) (ins:=ins) (xs:=xs.take k) (by rw[QaR];omega);have w:rows.length<=10:=by rw[b,QaR];omega
 have ep:fSl (aD 3) fE (fP (fMo (aJ (qG C) [] (aA (aD 0) (aA (kI 1) aF))) (kI 11))) [oF (LI ns),oT (.int fst),oT (.int ins),oT (LI xs),none,none]=some (LI (xs.take k)):=by
  have:fP (fMo (aJ (qG C) [] (aA (aD 0) (aA (kI 1) aF))) (kI 11)) [oF (LI ns),oT (.int fst),oT (.int ins),oT (LI xs),none,none]=some (some (k:Int)):=by
   clear l a0 q t r u o f;walk_at "ev"
  rw[ev_Sl,this];simp only[LI,ev_var,ev_NoP,Qbb,List.getElem?_cons_succ,Qbm,QaH,r,Rl,u]
 refine hU (d:=.lst (rows.map Row.d)) (aP (xs:=[.int ins,LI (xs.take k)]) (aI rfl (aI ep rfl)) t) ?_;refine Z2a (λe=>∃rows:Ab Row,RowsOk ins rows/\rows.length<=10/\0<ins+rows.length/\e=[oF (LI ns),oT (.int fst),oT (.int ins),oT (LI xs),oT (.lst (rows.map Row.d)),none]) ?_ ?_
 .have O:bG [.lst (rows.map Row.d)]=some (.int (rows.length:Int)):=by simp only[bG,Qab]
  by_cases h:(ins:Int)+(rows.length:Int)=0
  .refine uM (by clear l a0 p q t r u ep o f b;walk_at "ev") ?_;refine Q2 (d:=.lst [(Row.fix (fst/216%2)).d]) (by clear l a0 p q t r u ep o f b;walk_at "ev";rfl) ?_;refine⟨_,rfl,[.fix (fst/216%2)],?_,by simp,by simp,rfl⟩;intro F Y v
   match F,v with
   |0,v=>cases v;show _\/_;omega
   |F+1,v=>simp at v
  .refine uN (by clear l a0 p q t r u ep o f b;walk_at "ev") ?_;exact⟨_,rfl,rows,f,w,by omega,rfl⟩
 clear t f b w;rintro _ ⟨rows,f,b,hpos,rfl⟩;have O:bG [.lst (rows.map Row.d)]=some (.int (rows.length:Int)):=by simp only[bG,Qab]
 have T:=gP (vs:=xs) (a:=10) (by decide) (by omega);obtain⟨_,y,outs,I,R,B,rfl⟩:=Z9k (C:=C) (W:=(ins:Int)+(rows.length:Int)) (n:=nth xs 10) (by omega);refine hU (d:=LI outs) (aP (xs:=[.int ((ins:Int)+(rows.length:Int)),.int (nth xs 10)]) (by simp only[LI]at *;clear l a0 p q r u ep o f y B;walk_at "ev") y) ?_;have G:cT [2] (sB1 fU (aA (aD 2) aF)) fTT (aJ (mD C) [] (aA (aD 1) (aA (aD 0) aF))) [oF (LI ns),oT (.int fst),oT (.int ins),oT (LI xs),oT (.lst (rows.map Row.d)),oT (LI outs)]=some (LI (inT ins)):=by
  have P:((List.range ins).map λ(i:Nat)=>D.int (tab (2^ins) λg=>decide (g/2^i%2=1)))=(inT ins).map D.int:=by
   apply List.ext_getElem?;intro j;by_cases A:j<ins
   .rw[QaD,QaD,pF ins j A,List.getElem?_range A];simp only[QaH]
   .rw[Qas (by simp;omega),Qas (by rw[Qab,fS];omega)]
  have Q:=cO (fr:=[2]) (src:=sB1 fU (aA (aD 2) aF)) (fe:=aJ (mD C) [] (aA (aD 1) (aA (aD 0) aF))) (env:=[oF (LI ns),oT (.int fst),oT (.int ins),oT (LI xs),oT (.lst (rows.map Row.d)),oT (LI outs)])
   (λ(k:Nat)=>.int (k:Int)) (λ(i:Nat)=>.int (tab (2^ins) λg=>decide (g/2^i%2=1))) (xs:=List.range ins) (gU (xs:=[.int (ins:Int)]) rfl (wX (by omega))) (by rw[QaZ];omega) (λi hi=>aP (xs:=[.int ins,.int i]) rfl (Z7z (by omega) (List.mem_range.mp hi)))
  rw[Q,P];simp only[LI]
 refine⟨aN ins rows outs,?_,ins,rows,outs,hi5,f,b,I,R,λa ha=>by have:=B a ha;omega,hpos,rfl⟩;exact Z4n (qM rfl (qM rfl (qM rfl (Z10 G rfl)))) (by simp)
def Z56(p:l=0/\0<r.ws.length\/l=1/\1<r.ws.length)(hw:∀a∈r.ws,0<=a/\a<vs.length)(q:∀w l b,f=.leg w l b->b=0\/b=1) :
  wB C [LI vs,r.d,.int l,f.d,.int w,.int (bC n)]=some (.int (tU r w l vs (bC n) f)):=by
 have i:aZ (fIx (aD 0) (fIx (aD 1) (fAd (aD 2) (kI 1)))) [oF (LI vs),oF r.d,oF (.int l),oF f.d,oF (.int w),oF (.int (bC n))]=some (.int (nth vs (nth r.ws l))):=by
  cases r with
  |fix b=>simp[Row.ws]at p
  |not a =>
   rcases p with⟨rfl,_⟩|⟨_,h⟩
   .have j:=hw a (by simp[Row.ws]);have t:=gP j.1 j.2;have u:nth (Row.not a).ws 0=a:=rfl;simp only[LI,Row.d];walk_at "ev"
   .simp[Row.ws]at h
  |bin k a b =>
   rcases p with⟨rfl,_⟩|⟨rfl,_⟩
   .have j:=hw a (by simp[Row.ws]);have t:=gP j.1 j.2;have u:nth (Row.bin k a b).ws 0=a:=rfl;simp only[LI,Row.d];walk_at "ev"
   .have j:=hw b (by simp[Row.ws]);have t:=gP j.1 j.2;have u:nth (Row.bin k a b).ws 1=b:=rfl;simp only[LI,Row.d];walk_at "ev"
 refine bS ?_;unfold Z1R;cases f with
 |none =>
  refine sNo ?_ (cR i);simp only[Flt.d];rfl
 |wire w' b =>
  have v:=Z43;have y:flats [.str "wire",.int w',.int b]=true:=rfl;have x:cutD [.str "wire",.int w',.int b] none (some 3)=[.str "wire",.int w',.int b]:=kU _ 3;refine sNo ?_ (cR i);simp only[Flt.d];clear i p hw q;walk_at "ev"
  try simp
 |leg w' l' b =>
  have v:=ZaY;have y:flats [.str "leg",.int w',.int l',.int b]=true:=rfl;have x:cutD [.str "leg",.int w',.int l',.int b] none (some 3)=[.str "leg",.int w',.int l']:=kU _ 3;have o:iJ (oH true (aD 3)) (fEq (Z0Z (aD 3) fE (fP (kI 3))) (fT (aA (kS "leg") (aA (aD 4) (aA (aD 2) aF))))) [oF (LI vs),oF r.d,oF (.int l),oF ((Flt.leg w' l' b).d),oF (.int w),oF (.int (bC n))]=some (decide (w'=w/\l'=l)):=by
   simp only[Flt.d];clear i p hw q;by_cases h1:w'=w
   .by_cases h2:l'=l
    .subst h1;subst h2;walk_at "ev";try simp
    .subst h1;walk_at "ev";try simp[h2]
   .walk_at "ev";try simp[h1]
  by_cases h:w'=w/\l'=l
  .rw[Rj h]at o;have A:IntMulOk (bC n) b:=sI (q _ _ _ rfl);refine Z0m o (wV ?_);simp only[tU,if_pos h,Flt.d];clear v o i;walk_at "ev"
  .rw[Ri h]at o;refine sNo o ?_;simp only[tU,if_neg h];exact cR i
def V5{C:Af}{n:Nat}{r:Row}{w k:Int}{vs:Ab Int}{f:Flt}(j:RowOk k r)(B:k<=vs.length)(p:∀a,IsT n (nth vs a))(h:∀w l b,f=.leg w l b->b=0\/b=1)(i:∀w' l' b,f=.leg w' l' b->w'=w->0<=l'/\l'<r.ws.length) :
  eZ C [LI vs,r.d,f.d,.int w,.int (bC n)]=some (.int (iG r (legs r w vs (bC n) f) (bC n))):=by
 have hw:∀a∈r.ws,0<=a/\a<vs.length:=λa ha=>by have:=j.ws a ha;omega
 cases r with
 |fix b =>
  have v:=Za0;have E:IntMulOk (bC n) b:=sI j;unfold eZ iQ;simp only[Row.d,iG];clear p h i hw j;walk_at "ev"
 |not a =>
  have q:=Z56 (C:=C) (n:=n) (w:=w) (l:=0) (f:=f) (.inl ⟨rfl,by simp[Row.ws]⟩) hw h;have k0:=tT (w:=w) (l:=0) (o:=bC n) (vs:=vs) (.inl ⟨rfl,by simp[Row.ws]⟩) i;have v:=Z6n;have A:=ZaX;have u:=Z7F (Z52 (r:=.not a) (w:=w) (l:=0) p h);have t:iG (.not a) (legs (.not a) w vs (bC n) f) (bC n)=bC n-tU (.not a) w 0 vs (bC n) f:=by rw[<- u,<- k0];rfl
  rw[t];generalize tU (Row.not a) w 0 vs (bC n) f=x at *
  unfold eZ iQ;simp only[Row.d]at q ⊢;clear u t k0 i h p j hw;walk_at "ev"
 |bin kd a b =>
  have q:=Z56 (C:=C) (n:=n) (w:=w) (l:=0) (f:=f) (.inl ⟨rfl,by simp[Row.ws]⟩) hw h;have k0:=tT (w:=w) (l:=0) (o:=bC n) (vs:=vs) (.inl ⟨rfl,by simp[Row.ws]⟩) i;have h1:=Z56 (C:=C) (n:=n) (w:=w) (l:=1) (f:=f) (.inr ⟨rfl,by simp[Row.ws]⟩) hw h;have k1:=tT (w:=w) (l:=1) (o:=bC n) (vs:=vs) (.inr ⟨rfl,by simp[Row.ws]⟩) i;have v:=Z6s kd;have A:=Z9Y kd;have F:=Z9Z kd;have G:=Z9X kd;have g:iG (.bin kd a b) (legs (.bin kd a b) w vs (bC n) f) (bC n)=kdT kd (tU (.bin kd a b) w 0 vs (bC n) f) (tU (.bin kd a b) w 1 vs (bC n) f):=by
   rw[<- k0,<- k1];cases kd<;>rfl
  rw[g];clear g k0 k1 i h p j hw;generalize tU (Row.bin kd a b) w 0 vs (bC n) f=x at *
  generalize tU (Row.bin kd a b) w 1 vs (bC n) f=y at *
  unfold eZ iQ;simp only[Row.d]at q h1 ⊢;cases kd with
  |and=>walk_at "ev";rfl
  |or=>walk_at "ev";rfl
  |xor=>walk_at "ev";rfl
def Z7x{C:Af}{ins:Nat}{rows:Ab Row}{outs:Ab Int}{f:Flt}(hi:ins<=8)(hs:ins+rows.length<=1000)(E:RowsOk ins rows)(y:FltOk ins rows f) :
  tN C [aN ins rows outs,f.d]=some (LI (bD ins rows f)):=by
 have H:=lB ins rows f;have t:=iU E y;obtain⟨q,u⟩:=vY hi;have J:jO 1 (ins:Int):=mF (by omega) (by omega);have p2:jO 1 ((1:Int)*2^(ins:Int).toNat):=by rw[lZ];exact mF q (Int.le_trans u (by decide))
 have ep:(1:Int)*2^((1:Int)*2^(ins:Int).toNat).toNat-1=bC (2^ins):=by rw[lZ];exact Z1U ins
 refine bS ?_;unfold C7;have W:bG [.lst (rows.map Row.d)]=some (.int (rows.length:Int)):=by simp only[bG,Qab]
 have G:Z4m [0] (gtT [2,3,4,5]) (aD 0) (enStart 9 [aN ins rows outs,f.d])=.next [oF (aN ins rows outs),oF f.d,oF (.int ins),oF (.lst (rows.map Row.d)),oF (LI outs),oF (LI (inT ins)),none,none,none]:=rfl;refine Q8 G ?_;refine mB (d:=.int (bC (2^ins))) (by clear t q u H hi hs E y G;walk_at "ev") ?_;refine mB (d:=.lst []) rfl ?_;refine qV (ds:=(List.range (ins+rows.length)).map λ(k:Nat)=>.int (k:Int)) (gU (xs:=[.int ((ins:Int)+(rows.length:Int))]) (by clear t q u H hi hs E y J p2 ep G;walk_at "ev") (Z4i (by omega) hs))
  (λi env=>∃s,env=[oF (aN ins rows outs),oF f.d,oF (.int ins),oF (.lst (rows.map Row.d)),oF (LI outs),oF (LI (inT ins)),oT (.int (bC (2^ins))),oT (LI ((bD ins rows f).take i)),s]) ⟨none,rfl⟩ ?_ ?_
 .rintro i d env hd ⟨s,rfl⟩;obtain⟨T,rfl⟩:=gQ hd;have A:((bD ins rows f).take i).length=i:=by rw[QaR];omega
  have p:(((bD ins rows f).take i).map D.int).length<=1000:=by rw[Qab];omega
  have o:∀v,(bD ins rows f)[i]?=some v->Res.next [oF (aN ins rows outs),oF f.d,oF (.int ins),oF (.lst (rows.map Row.d)),oF (LI outs),oF (LI (inT ins)),oT (.int (bC (2^ins))),oT (.lst (((bD ins rows f).take i).map D.int++[.int v])),oF (.int i)] =
    .next [oF (aN ins rows outs),oF f.d,oF (.int ins),oF (.lst (rows.map Row.d)),oF (LI outs),oF (LI (inT ins)),oT (.int (bC (2^ins))),oT (LI ((bD ins rows f).take (i+1))),oF (.int i)]:=by
   intro v j;rw[gJ j];simp only[LI,QaI,Qat,QaV]
  generalize htk:(bD ins rows f).take i=vs at *
  -- the wire's own fault
  have I:∀z,iJ (oH true (aD 1)) (fEq (Z0Z (aD 1) fE (fP (kI 2))) (fT (aA (kS "wire") (aA (aD 8) aF)))) [oF (aN ins rows outs),oF f.d,oF (.int ins),oF (.lst (rows.map Row.d)),oF (LI outs),oF (LI (inT ins)),oT (.int (bC (2^ins))),z,oF (.int i)]=some (pY f (i:Int)):=by
   intro z;clear t q u H hi hs E y J p2 ep G o p hd A htk;cases f with
   |none=>rfl
   |leg w l b =>
    have P:=Z6p;have N:flats [.str "leg",.int w,.int l,.int b]=true:=rfl;have O:cutD [.str "leg",.int w,.int l,.int b] none (some 2)=[.str "leg",.int w]:=kU _ 2;simp only[Flt.d];walk_at "ev"
    try simp[pY]
   |wire w b =>
    have P:=ZaW;simp only[Flt.d];by_cases hw:w=(i:Int)
    .subst hw;have N:flats [.str "wire",.int (i:Int),.int b]=true:=rfl;have O:cutD [.str "wire",.int (i:Int),.int b] none (some 2)=[.str "wire",.int (i:Int)]:=kU _ 2;walk_at "ev"
     try simp[pY]
    .have N:flats [.str "wire",.int w,.int b]=true:=rfl;have O:cutD [.str "wire",.int w,.int b] none (some 2)=[.str "wire",.int w]:=kU _ 2;walk_at "ev"
     try simp[pY,hw]
  by_cases B:∃b,f=.wire (i:Int) b
  .obtain⟨b,rfl⟩:=B;have j:(bD ins rows (.wire (i:Int) b))[i]?=some (bC (2^ins)*b):=by
    by_cases h1:i<ins
    .rw[wM h1];simp only[bY,Rl]
    .have M:i-ins<rows.length:=by omega
     have x:=Qaj M;generalize rows[i-ins]=r at x;have j:=uO (ins:=ins) (f:=.wire (i:Int) b) x;rw[show ins+(i-ins)=i by omega]at j;rw[j];simp only[bY,Rl]
   have U:IntMulOk (bC (2^ins)) b:=sI (y.w _ _ rfl);refine⟨_,_,rfl,(Z8P ((I _).trans (by simp[pY])) (jR (d:=.int (bC (2^ins)*b)) ?_ rfl p)).trans (o _ j),oF (.int i),rfl⟩;simp only[Flt.d];clear t q u H hi hs E y J p2 ep G o p hd A htk I j;walk_at "ev"
  .have F:∀v,bY v (i:Int) (bC (2^ins)) f=v:=by
    intro v;cases f with
    |none=>rfl
    |leg _ _ _=>rfl
    |wire w b =>
     unfold bY;by_cases hw:w=(i:Int)
     .subst hw;exact absurd ⟨b,rfl⟩ B
     .simp only[hw,Rm]
   have h:pY f (i:Int)=false:=by
    cases f with
    |none=>rfl
    |leg _ _ _=>rfl
    |wire w b =>
     by_cases hw:w=(i:Int)
     .subst hw;exact absurd ⟨b,rfl⟩ B
     .simp[pY,hw]
   by_cases h1:i<ins
   .have R:(i:Int)<(ins:Int):=by omega
    have j:=wM (rows:=rows) (f:=f) h1;rw[F]at j;have L:atI ((inT ins).map D.int) (i:Int)=some (.int (tab (2^ins) λg=>decide (g/2^i%2=1))):=by
     rw[gP (by omega) (by rw[fS];omega)];exact congrArg (λz=>some (D.int z)) (iM (pF ins i h1) rfl)
    refine⟨_,_,rfl,(Z6D ((I _).trans (by rw[h])) (Z8P ?_ (jR (d:=.int (tab (2^ins) λg=>decide (g/2^i%2=1))) ?_ rfl p))).trans (o _ j),oF (.int i),rfl⟩
    .clear t q u H hi hs E y J p2 ep G o p hd A htk I j L F h B;walk_at "ev"
    .simp only[LI];clear t q u H hi hs E y J p2 ep G o p hd A htk I j F h B;walk_at "ev"
   .have R:¬(i:Int)<(ins:Int):=by omega
    have M:i-ins<rows.length:=by omega
    have x:=Qaj M;generalize rows[i-ins]=r at x;have j:=uO (ins:=ins) (f:=f) x;rw[show ins+(i-ins)=i by omega,F,htk]at j;have K:=E _ r x;rw[show ins+(i-ins)=i by omega]at K;have L:=yZ x (a:=(i:Int)-(ins:Int)) (by omega);have Q:=V5 (C:=C) (n:=2^ins) (w:=(i:Int)) (vs:=vs) (f:=f) K (by rw[A];omega) (λa=>?_) y.l (λw' l' b e hw=>y.leg w' l' b (i-ins) r e x (by rw[hw];omega))
    .refine⟨_,_,rfl,(Z6D ((I _).trans (by rw[h])) (Z6D ?_ (jR (d:=.int (iG r (legs r i vs (bC (2^ins)) f) (bC (2^ins)))) ?_ rfl p))).trans (o _ j),oF (.int i),rfl⟩
     .clear t q u H hi hs E y J p2 ep G o p hd A htk I j L F h B Q;walk_at "ev"
     .clear t q u H hi hs E y J p2 ep G o p hd A htk I j F h B;walk_at "ev"
    .rw[<- htk];by_cases S:a.toNat<i
     .have:nth ((bD ins rows f).take i) a=nth (bD ins rows f) a:=by unfold nth;rw[List.getD,List.getD,List.getElem?_take_of_lt S]
      rw[this];exact t a
     .have:nth ((bD ins rows f).take i) a=0:=by unfold nth;rw[List.getD,Qas (by rw[QaR];omega)];rfl
      rw[this];exact yD _
 .rintro env ⟨s,rfl⟩;rw[Qab,QaZ,<- H,QaW];rfl
def mU(hi:ins<=8)(hs:ins+rows.length<=1000)(i:RowsOk ins rows)(n:FltOk ins rows f)(j:outs.length<=1000)(b:Ho ins rows outs) :
  fK C [aN ins rows outs,f.d]=some (LI (outs.map (nth (bD ins rows f)))):=by
 have w:=Z7x (C:=C) (outs:=outs) hi hs i n;have l:=lB ins rows f;generalize bD ins rows f=T at *
 refine bS ?_;unfold oB;refine mB (aP (xs:=[aN ins rows outs,f.d]) rfl w) ?_;refine cR ?_;rw[cO D.int (λa=>.int (nth T a)) (xs:=outs) (by rfl) j (λa ha=>?_)]
 .simp[LI,Function.comp_def]
 .have h:=b a ha;have o:=gP (vs:=T) (a:=a) h.1 (by rw[l];exact h.2);show aZ (fIx (aD 1) (aD 0)) [oF (.int a),oT (LI T)]=_;simp only[LI];walk_at "ev"
def Z2W(h:outs.length<=1000):nU C [LI (outs.map (nth A)),LI (outs.map (nth B))]=some (.int (pO A B outs)):=by
 have f:bG [LI (outs.map (nth A))]=some (.int (outs.length:Int)):=by simp only[bG,LI,Qab]
 refine bS ?_;unfold uY;refine mB (d:=.int 0) rfl ?_;refine qV (ds:=(List.range outs.length).map λ(k:Nat)=>.int (k:Int)) (gU (xs:=[.int (outs.length:Int)]) (by walk_at "ev") (wX h))
  (λi env=>∃a,env=[oF (LI (outs.map (nth A))),oF (LI (outs.map (nth B))),oT (.int (pO A B (outs.take i))),a]) ⟨none,rfl⟩ ?_ ?_
 .rintro i d env hd ⟨a,rfl⟩;obtain⟨hi,rfl⟩:=gQ hd;have b:=Qaj hi;generalize outs[i]=x at b;have j:atI ((outs.map (nth A)).map D.int) (i:Int)=some (.int (nth A x)):=lM (by simp[b]);have l:atI ((outs.map (nth B)).map D.int) (i:Int)=some (.int (nth B x)):=lM (by simp[b]);refine⟨_,_,rfl,Z1w (d:=.int (Builtin.bitOr (pO A B (outs.take i)) (Builtin.bitOr (nth A x) (nth B x)-Builtin.bitAnd (nth A x) (nth B x)))) ?_,oF (.int i),by rw[wL b];rfl⟩;simp only[LI];clear hd b f;walk_at "ev"
 .rintro env ⟨a,rfl⟩;rw[Qab,QaZ,QaW];rfl
def Z8k(h1:w<((ins+rows.length:Nat):Int)):rQ C [aN ins rows outs,.int w]=some (LI (dF ins rows w)):=by
 refine bS ?_;show N6 C [oF (aN ins rows outs),oF (.int w)]=_;unfold N6 aN;by_cases h:w<(ins:Int)
 .rw[C3 h];refine Z0m (by walk_at "ev") (wV rfl)
 .have l:(w-(ins:Int)).toNat<rows.length:=by omega
  have i:=Qaj l;generalize rows[(w-(ins:Int)).toNat]=r at i;have f:=yZ i (a:=w-(ins:Int)) (by omega);rw[qH (by omega) i];cases r with
  |fix b =>
   have j:=Za0;simp only[Row.d]at f;exact Z0m (by walk_at "ev") (wV rfl)
  |not a =>
   have j:=Z6n;simp only[Row.d]at f;refine sNo (by walk_at "ev") (cR ?_);simp[f,fSl,flats,PD.flat,Z3b,Z0l,mH,LI,Row.ws,atI_0,atI_1]
  |bin k a b =>
   have j:=Z6s k;simp only[Row.d]at f;refine sNo (by walk_at "ev") (cR ?_);simp[f,fSl,flats,PD.flat,Z3b,Z0l,mH,LI,Row.ws,atI_0,atI_1]
def Z8x(a:g<n):(tab n b/2^g%2=1)↔b g=true:=by
 have h:=dH n b g;rw[Nat.testBit_eq_decide_div_mod_eq]at h;simp only[a,decide_true,Bool.true_and]at h;have e:tab n b/2^g%2=((tabN n b/2^g%2:Nat):Int):=by unfold tab;simp
 rw[e,<- h];constructor
 .intro z;exact Rj (by omega)
 .intro z;have:=of_decide_eq_true z;omega
def Z5M(h:IsT n t):Builtin.Int.intBits t<=n:=by
 obtain⟨b,rfl⟩:=h;have h1:=gF n b;unfold Builtin.Int.intBits tab;by_cases a:tabN n b=0
 .rw[a];simp
 .have h2:(((tabN n b:Nat):Int)==0)=false:=by simpa using a
  rw[h2];simp only[QaU,Rm,Int.natAbs_natCast];have:=(Nat.log2_lt a).mpr h1;omega
def Z5L(h:t=((2^k*(2*m+1):Nat):Int)):k<Builtin.Int.intBits t:=by
 have f:0<2^k:=QaX k;have b:0<2^k*(2*m+1):=Nat.mul_pos f (by omega);have a:2^k<=2^k*(2*m+1):=Nat.le_mul_of_pos_right _ (by omega);generalize 2^k*(2*m+1)=T at *
 subst h;unfold Builtin.Int.intBits;have h2:(((T:Nat):Int)==0)=false:=by simpa using(show T≠0 by omega)
 rw[h2];simp only[QaU,Rm,Int.natAbs_natCast];have:k<=T.log2:=(Nat.le_log2 (by omega)).mpr a;omega
def Z7y(f:IsT n t)(v:n<=256):tO C [.int t]=some (kP t):=by
 have o:=Z5M f;refine S4 ?_;show Wp (uB C [oF (.int t),none]) _;unfold uB;have ls:∀(k:Nat),mT t=.int (k:Int)->kP t=SS (cF k):=λk e=>by unfold kP;rw[e];rfl
 refine Z9I (ds:=(List.range (Builtin.Int.intBits t)).map λ(k:Nat)=>.int (k:Int)) (gU (xs:=[.int ((Builtin.Int.intBits t:Nat):Int)]) rfl (wX (by omega)))
  (λi env=>(∀j,j<i->¬t/(1*2^j)%2=1)/\∃a,env=[oF (.int t),a]) ⟨λj hj=>(by omega),none,rfl⟩ ?_ ?_
 .rintro i d env hd ⟨hb,a,rfl⟩;obtain⟨u,rfl⟩:=gQ hd;refine⟨_,rfl,?_⟩;have w:jO 1 (i:Int):=mF (by omega) (by omega);have y:dD t (1*2^(i:Int).toNat):=rZ (by omega);have x:(0:Int)<2:=by decide
  by_cases h:t/(1*2^(i:Int).toNat)%2=1
  .refine uM (by clear hb f hd ls o;walk_at "ev") ?_;refine Z62 (d:=SS (cF i)) (by rw[cN (xs:=[.int (i:Int)]) rfl (D6 (by omega) (by omega))];rfl) ?_;show(Res.ret (SS (cF i)))=.ret (kP t);rw[QaJ]at h;have b:¬t=0:=λz=>by rw[z]at h;simp at h
   obtain⟨k,m,l,r,q⟩:=tW f b;have h1:¬i<k:=λz=>Z9i l z h;have h2:¬k<i:=λz=>hb k z (V3 l);rw[ls k q,show i=k by omega]
  .refine uN (by clear hb f hd ls o;walk_at "ev") (Z9H ⟨λj hj=>?_,oF (.int (i:Int)),rfl⟩);rw[QaJ]at h;by_cases p:j=i
   .rw[p];exact h
   .exact hb j (by omega)
 .rintro env ⟨hb,a,rfl⟩;rw[Qab,QaZ]at hb;refine Z62 (d:=.str "none") rfl ?_;have b:t=0:=by
   by_cases b:t=0
   .exact b
   .obtain⟨k,m,l,r,q⟩:=tW f b;exact(hb k (Z5L l) (V3 l)).elim
  rw[b];rfl
def Z3M(h:RowsOk ins rows)(i:FltOk ins rows f)(q:0<=g)(p:g<((2^ins:Nat):Int))(r:0<=a/\a<((ins+rows.length:Nat):Int)):nth (bD ins rows f) a/2^g.toNat%2=nth (fG ins rows g f) a:=by
 have h1:=uP h i a.toNat (by omega);have j:((a.toNat:Nat):Int)=a:=by omega
 have l:((g.toNat:Nat):Int)=g:=by omega
 rw[j]at h1;rw[h1];unfold tb;have h2:=Z8x (n:=2^ins) (g:=g.toNat) (b:=λg=>decide (nth (fG ins rows (g:Int) f) a=1)) (by omega);simp only[l,Rk]at h2;have h3:=jI (sH (g:=g) h i) a;have o:=Int.emod_two_eq (tab (2^ins) (λg=>decide (nth (fG ins rows (g:Int) f) a=1))/2^g.toNat);rcases h3 with z|z
 .rw[z]at h2 ⊢;rcases o with y|y
  .exact y
  .exact absurd (h2.mp y) (by decide)
 .rw[z]at h2 ⊢;exact h2.mpr rfl
def rL(a:(∀w b,f=.wire w b->b=0\/b=1)/\∀w l b,f=.leg w l b->(b=0\/b=1)/\0<=l)(h:inB ins rows f=true):FltOk ins rows f:=by
 refine⟨a.1,λw l b e=>(a.2 w l b e).1,λw l b k r e hk hw=>?_⟩;subst e;simp only[inB,Qam,Rk]at h;have i:(w-(ins:Int)).toNat=k:=by omega
 rw[qH (r:=r) (by omega) (by rw[i];exact hk)]at h;exact⟨(a.2 w l b rfl).2,h.2⟩
def Z1M(q:f ≠ .none):iE C [aN ins rows outs,f.d]=some (.bl (inB ins rows f)):=by
 have p:bG [.lst (rows.map Row.d)]=some (.int (rows.length:Int)):=by simp only[bG,Qab]
 have o:∀x,fI0 (λi j=>.int (i+j)) (fIx (aD 0) (fC (.int 0))) (fB1 bG (aA (fIx (aD 0) (fC (.int 1))) aF)) [oF (aN ins rows outs),x]=some (.int ((ins+rows.length:Nat):Int)):=λx=>by
  rw[ev_I0',cN (xs:=[.lst (rows.map Row.d)]) rfl p];rfl
 refine bS ?_;show tZ C [oF (aN ins rows outs),oF f.d]=_;unfold tZ;cases f with
 |none=>exact absurd rfl q
 |wire w b =>
  have a:fBI (λi j=>decide (j<=i)) (fIx (aD 1) (fC (.int 1))) (fI0 (λi j=>.int (i+j)) (fIx (aD 0) (fC (.int 0))) (fB1 bG (aA (fIx (aD 0) (fC (.int 1))) aF))) [oF (aN ins rows outs),oF ((Flt.wire w b).d)]=some (decide (((ins+rows.length:Nat):Int)<=w)):=by rw[ev_BI,o];rfl
  by_cases h:w<((ins+rows.length:Nat):Int)
  .simp only[inB,Rj h];refine sNo (by rw[a,Ri (by omega)]) ?_;refine cR ?_;have n:fEq (fIx (aD 1) (fC (.int 0))) (fC (.str "wire")) [oF (aN ins rows outs),oF ((Flt.wire w b).d)]=some true:=by
    show eqN 8 (.str "wire") (.str "wire")=_;rw[eqN_str,beq_self_eq_true]
   rw[ev_OfB,ev_Or,ev_B,ev_OfB,n];rfl
  .simp only[inB,Ri h];unfold aL rIf;rw[a,Rj (by omega)];rfl
 |leg w l b =>
  have a:fBI (λi j=>decide (j<=i)) (fIx (aD 1) (fC (.int 1))) (fI0 (λi j=>.int (i+j)) (fIx (aD 0) (fC (.int 0))) (fB1 bG (aA (fIx (aD 0) (fC (.int 1))) aF))) [oF (aN ins rows outs),oF ((Flt.leg w l b).d)]=some (decide (((ins+rows.length:Nat):Int)<=w)):=by rw[ev_BI,o];rfl
  by_cases h:w<((ins+rows.length:Nat):Int)
  .have lo:=Z8k (C:=C) (outs:=outs) h;refine sNo (by rw[a,Ri (by omega)]) ?_;refine cR ?_;have n:fEq (fIx (aD 1) (fC (.int 0))) (fC (.str "wire")) [oF (aN ins rows outs),oF ((Flt.leg w l b).d)]=some false:=by
    show eqN 8 (.str "leg") (.str "wire")=_;rw[eqN_str,Z6p]
   have r:fI0 (λi j=>.bl (decide (i<j))) (fIx (aD 1) (fC (.int 2))) (fB1 bG (aA (aJ (rQ C) [] (aA (aD 0) (aA (fIx (aD 1) (fC (.int 1))) aF))) aF)) [oF (aN ins rows outs),oF ((Flt.leg w l b).d)]=some (.bl (decide (l<((dF ins rows w).length:Int)))):=by
    rw[ev_I0',cN (xs:=[LI (dF ins rows w)]) (aI (aP (xs:=[aN ins rows outs,.int w]) rfl lo) rfl) (show bG [LI (dF ins rows w)]=some (.int ((dF ins rows w).length:Int)) by simp only[bG,LI,Qab])];rfl
   rw[ev_OfB,ev_Or,ev_B,ev_OfB,n];simp only[QaH];rw[ev_B,r];simp only[inB,Rj h,Bool.true_and,QaH]
  .simp only[inB,Ri h,Bool.false_and];unfold aL rIf;rw[a,Rj (by omega)];rfl
def Asks(f:Flt)(m:Int):Prop:=(∃w b,f=.wire w b/\Nm w/\(b=0\/b=1))\/∃w l b,f=.leg w l b/\Nm w/\0<=l/\l<=m/\(b=0\/b=1)
def Z2T(x:Int):x%2=0\/x%2=1:=Int.emod_two_eq x
def Z0H:(dF ins rows w).length<=2:=by
 unfold dF;split
 .simp
 .split
  .rename_i r _;cases r<;>simp[Row.ws]
  .simp
def Z0J(hs:ins+rows.length<=100)(b:0<ins+rows.length):∃f,jV C [aN ins rows outs,.int n]=some f.d/\Asks f 2:=by
 have q:bG [.lst (rows.map Row.d)]=some (.int (rows.length:Int)):=by simp only[bG,Qab]
 have c0:(0:Int)<(ins:Int)+(rows.length:Int):=by omega
 have r:(0:Int)<8:=by decide
 have A:(0:Int)<2:=by decide
 have v:dD n 128:=⟨by decide,by decide⟩;have B:dD n 1024:=⟨by decide,by decide⟩;have t:dD n 256:=⟨by decide,by decide⟩;have u:dD n 512:=⟨by decide,by decide⟩;have x:dD n 4096:=⟨by decide,by decide⟩
 suffices hw:∃d,jV C [aN ins rows outs,.int n]=some d/\∃f,d=Flt.d f/\Asks f 2 by
  obtain⟨d,l,f,rfl,o⟩:=hw;exact⟨f,l,o⟩
 refine R9 ?_;show Wp (mY C [oF (aN ins rows outs),oF (.int n),none,none,none,none]) _;unfold mY;refine hU (d:=.int ((ins:Int)+(rows.length:Int))) (by simp only[aN];walk_at "ev") ?_;refine hU (d:=.int (n%((ins:Int)+(rows.length:Int)))) (by simp only[aN];walk_at "ev") ?_;have i:=QaC n (show(ins:Int)+(rows.length:Int)≠0 by omega);have m1:=Qaq n c0;refine Z2a (λa=>∃w,Nm w/\a=[oF (aN ins rows outs),oF (.int n),oT (.int ((ins:Int)+(rows.length:Int))),oT (.int w),none,none]) ?_ ?_
 .by_cases hc:n/128%8=0
  .have E:Z1d 10 8:=⟨by decide,by decide,by decide⟩;have y:IntMulOk (n/1024%2) (10^(8:Int).toNat):=by rcases Z2T (n/1024)with z|z<;>(rw[z];exact lE (by decide) (by decide))
   refine uM (by simp only[aN];walk_at "ev") ?_;refine Q2 (d:=.int ((ins:Int)+(rows.length:Int)+n/1024%2*10^(8:Int).toNat)) (by simp only[aN];walk_at "ev") ?_;refine⟨_,rfl,_,?_,rfl⟩;have j:(10:Int)^(8:Int).toNat=100000000:=by decide
   rw[j];unfold Nm;rcases Z2T (n/1024)with z|z<;>(rw[z];constructor<;>omega)
  .refine uN (by simp only[aN];walk_at "ev") ?_;exact⟨_,rfl,_,⟨i,by omega⟩,rfl⟩
 rintro _ ⟨w,hw,rfl⟩;by_cases hc:n/256%2=0
 .refine wI (by simp only[aN];walk_at "ev") ?_;exact Z9F (d:=(Flt.wire w (n/512%2)).d) (by simp only[aN,Flt.d];walk_at "ev") ⟨_,rfl,.wire w (n/512%2),rfl,.inl ⟨_,_,rfl,hw,Z2T _⟩⟩
 .refine wNo (by simp only[aN];walk_at "ev") ?_;refine hU (d:=.lst [.int 0]) rfl ?_;refine Z2a (λa=>∃ls:Ab Int,1<=ls.length/\ls.length<=3/\a=[oF (aN ins rows outs),oF (.int n),oT (.int ((ins:Int)+(rows.length:Int))),oT (.int w),oT (LI ls),none]) ?_ ?_
  .by_cases h:w<(ins:Int)+(rows.length:Int)
   .have lo:=Z8k (C:=C) (ins:=ins) (rows:=rows) (outs:=outs) (w:=w) (by omega);have l2:=Z0H (ins:=ins) (rows:=rows) (w:=w);refine uM (by simp only[aN];clear lo;walk_at "ev") ?_;refine⟨_,?_,0::dF ins rows w,by simp,by simp only[Qaf];omega,rfl⟩;show iK 4 4 _ _=_;unfold iK;rw[aP (xs:=[aN ins rows outs,.int w]) rfl lo];show(if flats [.int 0]=true/\[D.int 0].length+((dF ins rows w).map D.int).length<=1000 then _ else _)=_;rw[if_pos ⟨rfl,by rw[Qab,QaN];omega⟩];rfl
   .refine uN (by simp only[aN];walk_at "ev") ?_;exact⟨_,rfl,[0],by simp,by simp,rfl⟩
  rintro _ ⟨ls,h1,h3,rfl⟩;have p:bG [.lst (ls.map D.int)]=some (.int (ls.length:Int)):=by simp only[bG,Qab]
  have cl:(0:Int)<(ls.length:Int):=by omega
  have k0:=QaC (n/1024) (show(ls.length:Int)≠0 by omega);have k1:=Qaq (n/1024) cl;refine hU (d:=.int (n/1024%(ls.length:Int))) (by simp only[aN,LI];walk_at "ev") ?_;exact Z62 (d:=(Flt.leg w (n/1024%(ls.length:Int)) (n/4096%2)).d) (by simp only[aN,LI,Flt.d];walk_at "ev") ⟨_,rfl,.leg w (n/1024%(ls.length:Int)) (n/4096%2),rfl,.inr ⟨_,_,_,rfl,hw,k0,by omega,Z2T _⟩⟩
def yO:D->D
 | .exc _=>.lst [.str "wire"]
 |d=>d
def uG(x:Str):eqN 8 (.str x) (.str x)=some true:=by rw[eqN_str,beq_self_eq_true]
def G3{C CL CE CW CD a:Af}{l:Ab Nat}{c d:D}(f:CL≠CE)(i:CL≠CW)(b:CE≠CW)(hd:(∃x,d=.str x)\/d=.exc CW)(h:uT C CL CE CW CD a (bW CD c) [SS l]=some (d,bW CD c)):eV C CL CE CW CD a (bW CD c) [SS l]=some (yO d,bW CD c)/\eqN 8 (yO d) (yO d)=some true:=by
 rcases hd with⟨x,rfl⟩|rfl
 .exact⟨Z1p h (λC e=>by cases e) rfl,uG x⟩
 .exact⟨Z41 f i b h (.inr (.inr ⟨rfl,rfl⟩)),rfl⟩
def xZ(t:Int):∃x,kP t=.str x:=by
 unfold kP;split
 .exact⟨_,rfl⟩
 .exact⟨_,rfl⟩
def sO(CW:Af)(ins:Nat)(rows:Ab Row)(outs:Ab Int)(f:Flt):D:=if inB ins rows f=true then kP (lA ins rows outs f) else .exc CW
def uX(CW:Af)(ins:Nat)(rows:Ab Row)(outs:Ab Int)(f:Flt)(g:Int):D:=if inB ins rows f=true/\g<((2^ins:Nat):Int) then SS (Z3Z (outs.map (nth (fG ins rows g f)))) else .exc CW
def Asks.nm{f:Flt}(h:Asks f 1):f ≠ .none/\(∀n∈bT f,Nm n)/\(∀n∈(bT f).drop 1,n<=1)/\((∀w b,f=.wire w b->b=0\/b=1)/\∀w l b,f=.leg w l b->(b=0\/b=1)/\0<=l):=by
 rcases h with⟨w,b,rfl,hw,a⟩|⟨w,l,b,rfl,hw,i,l1,a⟩
 .refine⟨λz=>(by cases z),λn hn=>?_,λn hn=>?_,λw' b' e=>(by cases e;exact a),λw' l' b' e=>(by cases e)⟩
  .simp only[bT,Qad,QaO,or_false]at hn;rcases hn with rfl|rfl
   .exact hw
   .unfold Nm;omega
  .simp only[bT,List.drop_succ_cons,List.drop_zero,Qad,QaO,or_false]at hn;omega
 .refine⟨λz=>(by cases z),λn hn=>?_,λn hn=>?_,λw' b' e=>(by cases e),λw' l' b' e=>(by cases e;exact⟨a,i⟩)⟩
  .simp only[bT,Qad,QaO,or_false]at hn;rcases hn with rfl|rfl|rfl
   .exact hw
   .unfold Nm;omega
   .unfold Nm;omega
  .simp only[bT,List.drop_succ_cons,List.drop_zero,Qad,QaO,or_false]at hn;omega
section
variable {C CL CE CW CD a:Af}{ins:Nat}{rows:Ab Row}{outs:Ab Int}{f:Flt}{g:Int}
def Z0d(j:CL≠CE)(n:CL≠CW)(i:CE≠CW)(hi:ins<=8)(hs:ins+rows.length<=1000)(h:RowsOk ins rows)(p:outs.length<=16)(b:Ho ins rows outs)(l:Asks f 1) :
  eV C CL CE CW CD a (bW CD (bE C ins rows outs)) [SS (jn (kTells::aU (bT f)))]=some (yO (sO CW ins rows outs f),bW CD (bE C ins rows outs))/\eqN 8 (yO (sO CW ins rows outs f)) (yO (sO CW ins rows outs f))=some true:=by
 obtain⟨h1,h2,h3,o⟩:=l.nm;refine G3 j n i ?_ (G2 (Z3N h1 h2 h3) (by decide +kernel) (by decide +kernel) (P5 (xX hi hs h (rL o) (by omega) b)));unfold sO;split
 .exact .inl (xZ _)
 .exact .inr rfl
def Z2l(o:CL≠CE)(q:CL≠CW)(n:CE≠CW)(hs:ins+rows.length<=1000)(j:RowsOk ins rows)(p:outs.length<=16)(i:Ho ins rows outs){l:Ab Nat}(b:Nm g)(h:(f=.none/\l=jn (kGive::aU [g]))\/(Asks f 1/\l=jn (kOf f::aU (bT f++[g])))) :
  eV C CL CE CW CD a (bW CD (bE C ins rows outs)) [SS l]=some (yO (uX CW ins rows outs f g),bW CD (bE C ins rows outs))/\eqN 8 (yO (uX CW ins rows outs f g)) (yO (uX CW ins rows outs f g))=some true:=by
 have hd:(∃x,uX CW ins rows outs f g=.str x)\/uX CW ins rows outs f g=.exc CW:=by
  unfold uX;split
  .exact .inl ⟨_,rfl⟩
  .exact .inr rfl
 rcases h with⟨rfl,rfl⟩|⟨h,rfl⟩
 .exact G3 o q n hd (G2 (Z6a b) (by decide +kernel) (by decide +kernel) (vG (fd:=Flt.none.d) (pQ b.1 hs j (λ_=>.no) p i)))
 .obtain⟨h1,h2,h3,r⟩:=h.nm;exact G3 o q n hd (G2 (Z3O h1 h2 h3 b) (by decide +kernel) (by decide +kernel) (vG (pQ b.1 hs j (rL r) p i)))
end
def ZaC{x:D}{xs:Ab D}(h:flats (x::xs)=true){fa:En->Aa D}{env:En}(a:fa env=some (.tup (x::xs))):fSl fa (fP (kI 1)) fE env=some (.tup xs):=by
 unfold fSl;rw[a];show(if flats (x::xs)=true/\¬(HT.sIx (x::xs).length 0 (some 1)=0/\HT.sIx (x::xs).length (x::xs).length none=(x::xs).length) then some (D.tup (PD.cutD (x::xs) (some 1) none)) else none)=_;rw[Qaf,Z0l,if_pos ⟨h,λz=>absurd z.1 (by omega)⟩,Z3b]
def Z3F{f:Flt}(i:f ≠ .none)(a:∀n∈bT f,Nm n){env:En}(he:aD 3 env=some f.d):cT [] (fZ (fSl (aD 3) (fP (kI 1)) fE)) fTT (fB1 pL (aA (aD 0) aF)) env=some (.lst ((aU (bT f)).map SS)):=by
 have h:fSl (aD 3) (fP (kI 1)) fE env=some (.tup ((bT f).map D.int)):=by
  cases f with
  |none=>exact absurd rfl i
  |wire w b=>exact ZaC rfl he
  |leg w l b=>exact ZaC rfl he
 have j:(bT f).length<=3:=by cases f<;>simp[bT]
 rw[cO D.int (λn=>SS (cF n.toNat)) (xs:=bT f) (by rw[ev_seq,h]) (by omega) (λn hn'=>cN (xs:=[.int n]) rfl (D6 (a n hn').1 (a n hn').2))];unfold aU;rw[Qa8];rfl
def ZaL{k:Ab Nat}(h:k=kTells\/k=mV\/k=M8\/k=kGive):Wo 9 k:=by rcases h with rfl|rfl|rfl|rfl<;>exact⟨by decide,by decide,by decide⟩
def Z7t(x y:Ab Nat):mkS x++mkS y=mkS (x++y):=by
 apply oO;rw[cZ];show((mkS x).cps++(mkS y).cps).toList=_;simp[mkS]
def Z20{x:D}{ys:Ab D}{fa:En->Aa D}{i:Nat}{env:En}(f:flat x=true)(a:fa env=some x)(h:aD i env=some (.lst ys))(b:flats ys=true)(j:ys.length<=900):oJ (cW (aA fa aF)) (aD i) env=some (.lst (x::ys)):=by
 rw[ev_CatF,ev_Lst,aI a rfl,h];show(if (flats [x]=true/\flats ys=true)/\[x].length+ys.length<=1000 then some (D.lst ([x]++ys)) else none)=_;have:flats [x]=true:=by show(flat x&&flats [])=true;rw[f];rfl
 rw[if_pos ⟨⟨this,b⟩,by rw[QaN];omega⟩];rfl
section
variable {C CL CE CW CD a:Af}{ins:Nat}{rows:Ab Row}{outs:Ab Int}
def S6{c:D}{fs:En->Aa (Ab D)}{l:Ab Nat}{env:En}{d:D}{k:Nat}(hs:eV C CL CE CW CD a (bW CD c) [SS l]=some (d,bW CD c)/\eqN 8 d d=some true)(f:fs env=some [.fn a [] [],SS l])(h:aD k env=some d) :
  qY (gBl (gEq false (zQ [a] 0 (eV C CL CE CW CD) fs) (aD k))) env [bW CD c]=(.ret (.bl true),[bW CD c]):=by
 refine T4 ?_;unfold gBl;rw[Z5m (b:=true) (O0 f hs.1) h hs.2];rfl
def Z7C(n1:CL≠CE)(n2:CL≠CW)(n3:CE≠CW)(hi:ins<=5)(hs:ins+rows.length<=100)(hpos:0<ins+rows.length)(p:RowsOk ins rows)(hl:outs.length<=16)(u:Ho ins rows outs){n:Int}(h0:0<=n)(h1:n<2147483648) :
  pC C CL CE CW CD a (bW CD (bE C ins rows outs)) [aN ins rows outs,.int n]=some (.bl true,bW CD (bE C ins rows outs)):=by
 obtain⟨r,K,y⟩:=Z0J (C:=C) (ins:=ins) (rows:=rows) (outs:=outs) (n:=n) hs hpos;have hne0:r ≠ .none:=by rcases y with⟨w,b,rfl,_⟩|⟨w,l,b,rfl,_⟩<;>(intro z;cases z)
 have N:=Z1M (C:=C) (ins:=ins) (rows:=rows) (outs:=outs) hne0;have pb:2^ins<=32:=QaE (Qa0 (by decide) hi) (by decide);have pp:0<2^ins:=QaX ins;have p1:jO 1 (ins:Int):=mF (by omega) (by omega);have ep:(1:Int)*2^(ins:Int).toNat=((2^ins:Nat):Int):=by rw[Qa4,QaJ];simp
 have c2:(0:Int)<((2^ins:Nat):Int):=by omega
 have q8:(0:Int)<8:=by decide
 have q3:(0:Int)<3:=by decide
 have q2:(0:Int)<2:=by decide
 have d1:dD n 64:=⟨by decide,by decide⟩;have d2:dD n 16384:=⟨by decide,by decide⟩;have d3:dD n 131072:=⟨by decide,by decide⟩;have d4:dD n 8:=⟨by decide,by decide⟩;generalize hP:((2^ins:Nat):Int)=P at *
 refine qX ?_;show uC C CL CE CW CD a [oF (.fn a [] []),oF (aN ins rows outs),oF (.int n),none,none,none,none,none,none] [bW CD (bE C ins rows outs)]=_;unfold uC;refine lK (aP (xs:=[aN ins rows outs,.int n]) rfl K) ?_
 -- is it there,at first
 obtain⟨E,I,G⟩:∃E,kR (iJ (fB (aJ (iE C) [] (aA (aD 1) (aA (aD 3) aF)))) (fB (kR (fOr (fB (kR (fEq (fIx (aD 3) (fC (.int 0))) (fC (.str "wire"))))) (fB (fI0 (λi j=>.bl (decide (i<j))) (fIx (aD 3) (fC (.int 2))) (fC (.int 2)))))))) [oF (.fn a [] []),oF (aN ins rows outs),oF (.int n),oT r.d,none,none,none,none,none]=some (.bl E)/\(Asks r 1->E=inB ins rows r):=by
  have X:aJ (iE C) [] (aA (aD 1) (aA (aD 3) aF)) [oF (.fn a [] []),oF (aN ins rows outs),oF (.int n),oT r.d,none,none,none,none,none]=some (.bl (inB ins rows r)):=aP (xs:=[aN ins rows outs,r.d]) rfl N;cases H:inB ins rows r with
  |false=>exact⟨false,by rw[ev_OfB,ev_And,ev_B,X,H];rfl,λ_=>rfl⟩
  |true =>
   rcases y with⟨w,b,rfl,hw,q⟩|⟨w,l,b,rfl,hw,l0,l2,q⟩
   .have v:fEq (fIx (aD 3) (fC (.int 0))) (fC (.str "wire")) [oF (.fn a [] []),oF (aN ins rows outs),oF (.int n),oT ((Flt.wire w b).d),none,none,none,none,none]=some true:=uG _;exact⟨true,by rw[ev_OfB,ev_And,ev_B,X,H,ev_B,ev_OfB,ev_Or,ev_B,ev_OfB,v];rfl,λ_=>rfl⟩
   .have v:fEq (fIx (aD 3) (fC (.int 0))) (fC (.str "wire")) [oF (.fn a [] []),oF (aN ins rows outs),oF (.int n),oT ((Flt.leg w l b).d),none,none,none,none,none]=some false:=by
     show eqN 8 (.str "leg") (.str "wire")=_;rw[eqN_str,Z6p]
    refine⟨decide (l<2),by rw[ev_OfB,ev_And,ev_B,X,H,ev_B,ev_OfB,ev_Or,ev_B,ev_OfB,v];rfl,λh=>?_⟩;rcases h with⟨_,_,z,_⟩|⟨w',l',b',z,_,_,h3,_⟩
    .cases z
    .cases z;exact Rj (by omega)
 refine lK I ?_;refine lK (d:=.int (n/64%P)) (by simp only[aN];clear K y N I G p u;walk_at "ev") ?_
 -- the GIVEN
 have m0:=QaC (n/64) (show P≠0 by omega);have m1:=Qaq (n/64) c2;obtain⟨g,O,e5⟩:∃g,Nm g/\(rIf (fEq (fI2 (λ_ j=>0<j) (λi j=>.int (i%j)) (fI2 dD (λi j=>.int (i/j)) (aD 2) (fC (.int 16384))) (fC (.int 8))) (fC (.int 0))) (aW 5 (fI0 (λi j=>.int (i+j)) (fI2 jO (λi j=>.int (i*2^j.toNat)) (fC (.int 1)) (fIx (aD 1) (fC (.int 0)))) (fI2 IntMulOk (λi j=>.int (i*j)) (fI2 (λ_ j=>0<j) (λi j=>.int (i%j)) (fI2 dD (λi j=>.int (i/j)) (aD 2) (fC (.int 131072))) (fC (.int 2))) (fI2 Z1d (λi j=>.int (i^j.toNat)) (fC (.int 10)) (fC (.int 6)))))) aX) [oF (.fn a [] []),oF (aN ins rows outs),oF (.int n),oT r.d,oT (.bl E),oT (.int (n/64%P)),none,none,none]=.next [oF (.fn a [] []),oF (aN ins rows outs),oF (.int n),oT r.d,oT (.bl E),oT (.int g),none,none,none]:=by
  by_cases hc:n/16384%8=0
  .have cp:Z1d 10 6:=⟨by decide,by decide,by decide⟩;have mo:IntMulOk (n/131072%2) (10^(6:Int).toNat):=by rcases Z2T (n/131072)with z|z<;>(rw[z];exact lE (by decide) (by decide))
   refine⟨P+n/131072%2*10^(6:Int).toNat,?_,?_⟩
   .have e6:(10:Int)^(6:Int).toNat=1000000:=by decide
    rw[e6];unfold Nm;rcases Z2T (n/131072)with z|z<;>(rw[z];constructor<;>omega)
   .simp only[aN];clear K y N I G p u;walk_at "ev"
  .refine⟨n/64%P,⟨m0,by omega⟩,?_⟩;simp only[aN];clear K y N I G p u;walk_at "ev"
 refine N9 e5 ?_
 -- a leg beyond the second is the second
 obtain⟨f,J,e6⟩:∃f,Asks f 1/\(rIf (iJ (fEq (fIx (aD 3) (fC (.int 0))) (fC (.str "leg"))) (fBI (λi j=>decide (j<i)) (fIx (aD 3) (fC (.int 2))) (fC (.int 1)))) (aL (aW 3 (fT (aA (fC (.str "leg")) (aA (aZ (fIx (aD 3) (fC (.int 1)))) (aA (fC (.int 1)) (aA (aZ (fIx (aD 3) (fC (.int 3)))) aF))))))
  (aW 4 (aJ (iE C) [] (aA (aD 1) (aA (aD 3) aF))))) aX) [oF (.fn a [] []),oF (aN ins rows outs),oF (.int n),oT r.d,oT (.bl E),oT (.int g),none,none,none]=.next [oF (.fn a [] []),oF (aN ins rows outs),oF (.int n),oT f.d,oT (.bl (inB ins rows f)),oT (.int g),none,none,none]:=by
  by_cases Y:Asks r 1
  .refine⟨r,Y,?_⟩;rw[<- G Y];rcases Y with⟨w,b,rfl,hw,q⟩|⟨w,l,b,rfl,hw,l0,l1,q⟩
   .have v:fEq (fIx (aD 3) (fC (.int 0))) (fC (.str "leg")) [oF (.fn a [] []),oF (aN ins rows outs),oF (.int n),oT ((Flt.wire w b).d),oT (.bl E),oT (.int g),none,none,none]=some false:=by
     show eqN 8 (.str "wire") (.str "leg")=_;rw[eqN_str,Z43]
    unfold rIf;rw[ev_And,v];rfl
   .have v:fEq (fIx (aD 3) (fC (.int 0))) (fC (.str "leg")) [oF (.fn a [] []),oF (aN ins rows outs),oF (.int n),oT ((Flt.leg w l b).d),oT (.bl E),oT (.int g),none,none,none]=some true:=uG _;have e3:fBI (λi j=>decide (j<i)) (fIx (aD 3) (fC (.int 2))) (fC (.int 1)) [oF (.fn a [] []),oF (aN ins rows outs),oF (.int n),oT ((Flt.leg w l b).d),oT (.bl E),oT (.int g),none,none,none]=some (decide (1<l)):=rfl;unfold rIf;rw[ev_And,v];dsimp only;rw[e3,Ri (by omega)];rfl
  .rcases y with hw0|⟨w,l,b,rfl,hw,l0,l2,q⟩
   .exact absurd (.inl hw0) Y
   .have hl1:1<l:=by
     refine Classical.byContradiction λz=>Y (.inr ⟨w,l,b,rfl,hw,l0,by omega,q⟩)
    have lt1:=Z1M (C:=C) (ins:=ins) (rows:=rows) (outs:=outs) (f:=.leg w 1 b) (by intro z;cases z);refine⟨.leg w 1 b,.inr ⟨w,1,b,rfl,hw,by decide,by decide,q⟩,?_⟩;have v:fEq (fIx (aD 3) (fC (.int 0))) (fC (.str "leg")) [oF (.fn a [] []),oF (aN ins rows outs),oF (.int n),oT ((Flt.leg w l b).d),oT (.bl E),oT (.int g),none,none,none]=some true:=uG _;have e3:fBI (λi j=>decide (j<i)) (fIx (aD 3) (fC (.int 2))) (fC (.int 1)) [oF (.fn a [] []),oF (aN ins rows outs),oF (.int n),oT ((Flt.leg w l b).d),oT (.bl E),oT (.int g),none,none,none]=some (decide (1<l)):=rfl;unfold rIf;rw[ev_And,v];dsimp only;rw[e3,Rj hl1];refine mB (d:=(Flt.leg w 1 b).d) rfl ?_;unfold aW;rw[aP (xs:=[aN ins rows outs,(Flt.leg w 1 b).d]) rfl lt1];rfl
 refine N9 e6 ?_;clear e5 e6 I G K N y hne0;obtain⟨g1,Q,g3,g4⟩:=J.nm;refine lK (Z3F g1 Q rfl) ?_;have F:∀k,(k=kTells\/k=mV\/k=M8\/k=kGive)->∀ws:Ab Int,(∀n∈ws,Nm n)->∀w∈k::aU ws,Wo 9 w:=λk hk ws hws w hw=>by
  rcases Qad.mp hw with rfl|z
  .exact ZaL hk
  .exact xN hws w z
 have hfl:(bT f).length<=3:=by cases f<;>simp[bT]
 have S:(aU (bT f)).length=(bT f).length:=by unfold aU;rw[Qab]
 have L:=mU (C:=C) (ins:=ins) (rows:=rows) (outs:=outs) (f:=.none) (by omega) (by omega) p .no (by omega) u;by_cases h3:n%3=0
 .-- tells
  refine Zat (by clear p u L Q g3 g4 F J;walk_at "ev") ?_;refine lK (d:=.lst [.str "wire"]) rfl ?_;have st:=Z0d (C:=C) (CL:=CL) (CE:=CE) (CW:=CW) (CD:=CD) (a:=a) n1 n2 n3 (by omega) (by omega) p hl u J;refine N9 (e:=[oF (.fn a [] []),oF (aN ins rows outs),oF (.int n),oT f.d,oT (.bl (inB ins rows f)),oT (.int g),oT (.lst ((aU (bT f)).map SS)),oT (yO (sO CW ins rows outs f)),none]) ?_ ?_
  .unfold sO;cases H:inB ins rows f with
   |false=>rfl
   |true =>
    have T:=rL g4 H;have Z:=mU (C:=C) (ins:=ins) (rows:=rows) (outs:=outs) (f:=f) (by omega) (by omega) p T (by omega) u;have lt:=Z2W (C:=C) (A:=bD ins rows .none) (B:=bD ins rows f) (outs:=outs) (by omega);have ht:IsT (2^ins) (lA ins rows outs f):=A3 (iU p .no) (iU p T) outs;have ll:=Z7y (C:=C) ht (by omega);unfold rIf;show aW 7 _ [oF (.fn a [] []),oF (aN ins rows outs),oF (.int n),oT f.d,oT (.bl true),oT (.int g),oT (.lst ((aU (bT f)).map SS)),oT (.lst [.str "wire"]),none]=_;unfold aW;rw[aP (xs:=[.int (lA ins rows outs f)]) (aI (aP (xs:=[LI (outs.map (nth (bD ins rows .none))),LI (outs.map (nth (bD ins rows f)))]) (aI (aP (xs:=[aN ins rows outs,Flt.none.d]) rfl L) (aI (aP (xs:=[aN ins rows outs,f.d]) rfl Z) rfl)) lt) rfl) ll];obtain⟨x,W⟩:=xZ (lA ins rows outs f);rw[if_pos rfl,W];rfl
  .refine S6 st ?_ rfl;refine aI rfl (aI (pE (k:=9) (ws:=kTells::aU (bT f)) (F _ (.inl rfl) _ Q) (by rw[Qaf,S];omega) ?_) rfl);exact Z20 (x:=SS kTells) rfl (by rw[ev_C,Z1q];rfl) rfl (kQ _) (by rw[Qab,S];omega)
 .refine gNo (by clear p u L Q g3 g4 F J;walk_at "ev") ?_;have U:aZ (fIx (cW (aA (fC (.str "stuck")) (aA (fC (.str "leg")) aF))) (fB1 P8 (aA (kR (fEq (fIx (aD 3) (fC (.int 0))) (fC (.str "leg")))) aF))) [oF (.fn a [] []),oF (aN ins rows outs),oF (.int n),oT f.d,oT (.bl (inB ins rows f)),oT (.int g),oT (.lst ((aU (bT f)).map SS)),none,none]=some (SS (kOf f)):=by
   have key:∀b:Bool,fEq (fIx (aD 3) (fC (.int 0))) (fC (.str "leg")) [oF (.fn a [] []),oF (aN ins rows outs),oF (.int n),oT f.d,oT (.bl (inB ins rows f)),oT (.int g),oT (.lst ((aU (bT f)).map SS)),none,none]=some b->fB1 P8 (aA (kR (fEq (fIx (aD 3) (fC (.int 0))) (fC (.str "leg")))) aF) [oF (.fn a [] []),oF (aN ins rows outs),oF (.int n),oT f.d,oT (.bl (inB ins rows f)),oT (.int g),oT (.lst ((aU (bT f)).map SS)),none,none]=some (.int (if b then 1 else 0)):=λb e=>by
    rw[cN (xs:=[.bl b]) (aI (by rw[ev_OfB,e];rfl) rfl) (show P8 [.bl b]=some (.int (if b then 1 else 0)) by cases b<;>rfl)]
   have e0:cW (aA (fC (.str "stuck")) (aA (fC (.str "leg")) aF)) [oF (.fn a [] []),oF (aN ins rows outs),oF (.int n),oT f.d,oT (.bl (inB ins rows f)),oT (.int g),oT (.lst ((aU (bT f)).map SS)),none,none]=some (.lst [.str "stuck",.str "leg"]):=rfl;rcases J with⟨w,b,rfl,_⟩|⟨w,l,b,rfl,_⟩
   .have v:=key false (by show eqN 8 (.str "wire") (.str "leg")=_;rw[eqN_str,Z43]);rw[ev_Flat,ev_Ix,e0,v];show some (D.str (Str.ofString "stuck"))=_;rw[G4];rfl
   .have v:=key true (uG _);rw[ev_Flat,ev_Ix,e0,v];show some (D.str (Str.ofString "leg"))=_;rw[Z47];rfl
  have hko:kOf f=kTells\/kOf f=mV\/kOf f=M8\/kOf f=kGive:=by cases f<;>simp[kOf]
  have hnm:∀n∈bT f++[g],Nm n:=λn hn=>by
   rcases Qah.mp hn with z|z
   .exact Q n z
   .rw[Qay.mp z];exact O
  have R:∀{env:En},aD 5 env=some (.int g)->fB1 pL (aA (aD 5) aF) env=some (SS (cF g.toNat)):=λ{env} h=>cN (xs:=[.int g]) (aI h rfl) (D6 O.1 O.2);refine lK (d:=SS (jn (kOf f::aU (bT f++[g])))) ?_ ?_
  .refine pE (k:=9) (ws:=kOf f::aU (bT f++[g])) (F _ hko _ hnm) (by unfold aU;rw[Qaf,Qab,Qav,QaN];omega) ?_;show vO _ _ [oF (.fn a [] []),oF (aN ins rows outs),oF (.int n),oT f.d,oT (.bl (inB ins rows f)),oT (.int g),oT (.lst ((aU (bT f)).map SS)),none,none]=_;have c1:=Z20 (x:=SS (kOf f)) (i:=6) rfl U rfl (kQ (aU (bT f))) (by rw[Qab,S];omega);rw[ev_cat,c1,ev_Lst,aI (R rfl) rfl];show(if (SS (kOf f)::(aU (bT f)).map SS).length+[SS (cF g.toNat)].length<=1000 then some (D.lst ((SS (kOf f)::(aU (bT f)).map SS)++[SS (cF g.toNat)])) else none)=_;rw[if_pos (by rw[Qaf,Qab,S,QaN];omega)];unfold aU;simp
  obtain⟨o,l,hf2,e7⟩:∃o l,((o=.none/\l=jn (kGive::aU [g]))\/(Asks o 1/\l=jn (kOf o::aU (bT o++[g]))))/\(rIf (iJ (fEq (fI2 (λ_ j=>0<j) (λi j=>.int (i%j)) (aD 2) (fC (.int 3))) (fC (.int 1))) (fEq (fI2 (λ_ j=>0<j) (λi j=>.int (i%j)) (fI2 dD (λi j=>.int (i/j)) (aD 2) (fC (.int 8))) (fC (.int 2))) (fC (.int 0)))) (aL (aW 8 (D8 (fC (.str "give ")) (fB1 pL (aA (aD 5) aF))))
  (aL (aW 3 (fC .non))
  (aW 4 (fC (.bl true))))) aX) [oF (.fn a [] []),oF (aN ins rows outs),oF (.int n),oT f.d,oT (.bl (inB ins rows f)),oT (.int g),oT (.lst ((aU (bT f)).map SS)),none,oT (SS (jn (kOf f :: aU (bT f ++ [g]))))]=.next [oF (.fn a [] []),oF (aN ins rows outs),oF (.int n),oT o.d,oT (.bl (inB ins rows o)),oT (.int g),oT (.lst ((aU (bT f)).map SS)),none,oT (SS l)]:=by
   have et:∃t,iJ (fEq (fI2 (λ_ j=>0<j) (λi j=>.int (i%j)) (aD 2) (fC (.int 3))) (fC (.int 1))) (fEq (fI2 (λ_ j=>0<j) (λi j=>.int (i%j)) (fI2 dD (λi j=>.int (i/j)) (aD 2) (fC (.int 8))) (fC (.int 2))) (fC (.int 0))) [oF (.fn a [] []),oF (aN ins rows outs),oF (.int n),oT f.d,oT (.bl (inB ins rows f)),oT (.int g),oT (.lst ((aU (bT f)).map SS)),none,oT (SS (jn (kOf f::aU (bT f++[g]))))]=some t:=by
    clear p u L Q g3 g4 F J U hko hnm R;by_cases a1:n%3=1
    .by_cases a2:n/8%2=0
     .exact⟨true,by walk_at "ev"⟩
     .exact⟨false,by walk_at "ev"⟩
    .exact⟨false,by walk_at "ev"⟩
   obtain⟨t,et⟩:=et;cases t with
   |false=>exact⟨f,_,.inr ⟨J,rfl⟩,by unfold rIf;rw[et];rfl⟩
   |true =>
    refine⟨.none,_,.inl ⟨rfl,rfl⟩,?_⟩;unfold rIf;rw[et];refine mB (d:=SS (jn (kGive::aU [g]))) ?_ ?_
    .unfold D8;rw[R rfl];have hlen:=rO 8 g.toNat (by unfold Nm at O;omega);have sg:Str.ofString "give " = mkS [103,105,118,101,32]:=by decide +kernel
     show(if (Str.ofString "give ").length+(mkS (cF g.toNat)).length<=5000 then some (D.str (Str.ofString "give " ++ mkS (cF g.toNat))) else none)=_;rw[sg,lF,lF,if_pos (by simp only[Qaf,Qa2];omega),Z7t];show some (SS _)=some (SS (lG kGive [cF g.toNat]));unfold lG kGive;simp
    .rfl
  refine N9 e7 ?_;refine lK (d:=.lst [.str "wire"]) rfl ?_;have st:=Z2l (C:=C) (CL:=CL) (CE:=CE) (CW:=CW) (CD:=CD) (a:=a) n1 n2 n3 (by omega) p hl u O hf2;refine N9 (e:=[oF (.fn a [] []),oF (aN ins rows outs),oF (.int n),oT o.d,oT (.bl (inB ins rows o)),oT (.int g),oT (.lst ((aU (bT f)).map SS)),oT (yO (uX CW ins rows outs o g)),oT (SS l)]) ?_ (S6 st rfl rfl);have ec:iJ (fB (aD 4)) (fBI (λi j=>decide (i<j)) (aD 5) (fI2 jO (λi j=>.int (i*2^j.toNat)) (fC (.int 1)) (fIx (aD 1) (fC (.int 0))))) [oF (.fn a [] []),oF (aN ins rows outs),oF (.int n),oT o.d,oT (.bl (inB ins rows o)),oT (.int g),oT (.lst ((aU (bT f)).map SS)),oT (.lst [.str "wire"]),oT (SS l)]=some (inB ins rows o&&decide (g<P)):=by
   cases H:inB ins rows o with
   |false=>rfl
   |true =>
    simp only[aN];clear p u L Q g3 g4 F J U hko hnm R e7 hf2 st;walk_at "ev"
  show rIf _ _ _ [oF (.fn a [] []),oF (aN ins rows outs),oF (.int n),oT o.d,oT (.bl (inB ins rows o)),oT (.int g),oT (.lst ((aU (bT f)).map SS)),oT (.lst [.str "wire"]),oT (SS l)]=_;unfold rIf;rw[ec];unfold uX;rw[hP];cases H:inB ins rows o with
  |false=>rfl
  |true =>
   by_cases M:g<P
   .rw[Rj M,if_pos ⟨rfl,M⟩];have T:FltOk ins rows o:=by
     rcases hf2 with⟨rfl,_⟩|⟨h,_⟩
     .exact .no
     .exact rL h.nm.2.2.2 H
    have Z:=mU (C:=C) (ins:=ins) (rows:=rows) (outs:=outs) (f:=o) (by omega) (by omega) p T (by omega) u;have sh:jO 1 g:=mF O.1 (by omega);have hbt:∀x∈outs.map (nth (fG ins rows g o)),Bt x:=λx W=>by
     obtain⟨b,q,rfl⟩:=QaL.mp W;exact jI (sH p T) b
    show aW 7 _ [oF (.fn a [] []),oF (aN ins rows outs),oF (.int n),oT o.d,oT (.bl true),oT (.int g),oT (.lst ((aU (bT f)).map SS)),oT (.lst [.str "wire"]),oT (SS l)]=_;unfold aW;rw[pE (k:=1) (ws:=(outs.map (nth (fG ins rows g o))).map λx=>cF x.toNat) (λw hw=>by obtain⟨x,W,rfl⟩:=QaL.mp hw;exact Z3G (hbt x W)) (by rw[Qab,Qab];omega)]
    .rfl
    rw[cO (λb=>.int (nth (bD ins rows o) b)) (λb=>SS (cF (nth (fG ins rows g o) b).toNat)) (xs:=outs) (by rw[ev_seq,aP (xs:=[aN ins rows outs,o.d]) rfl Z];simp[LI,Function.comp_def]) (by omega) (λb q=>?_)]
    .rw[Qa8,Qa8];rfl
    .have tv:=Z3M (g:=g) p T O.1 (by rw[hP];exact M) (u b q);have bb:=Z19 (hbt _ (QaL.mpr ⟨b,q,rfl⟩));have dv:dD (nth (bD ins rows o) b) (1*2^g.toNat):=rZ (by omega);refine cN (xs:=[.int (nth (fG ins rows g o) b)]) (aI ?_ rfl) (D6 bb.1 bb.2);rw[<- tv];have X:(1:Int)*2^g.toNat=2^g.toNat:=Qa4 _;rw[X]at dv;simp[vP,sh,dv]
   .rw[Ri M,if_neg (λz=>M z.2)];rfl
end
def kY:Row->Ab Nat×Ab Int
 | .fix b=>(vL,[b])
 | .not a=>(M7,[a])
 | .bin .and a b=>(V9,[a,b])
 | .bin .or a b=>(kOr,[a,b])
 | .bin .xor a b=>(V8,[a,b])
def Z4f(r:Row):r.d=.tup (SS (kY r).1::(kY r).2.map D.int):=by
 cases r with
 |fix b=>show D.tup [.str "fix",.int b]=_;rw[Z4b];rfl
 |not a=>show D.tup [.str "not",.int a]=_;rw[Z88];rfl
 |bin k a b =>
  cases k with
  |and=>show D.tup [.str "and",.int a,.int b]=_;rw[Z8b];rfl
  |or=>show D.tup [.str "or",.int a,.int b]=_;rw[Z9W];rfl
  |xor=>show D.tup [.str "xor",.int a,.int b]=_;rw[Z86];rfl
def fV(r:Row):Ab (Ab Nat):=(kY r).1::aU (kY r).2
def tK(ins:Nat)(rows:Ab Row)(outs:Ab Int):Ab (Ab Nat):=kIns::cF ins::(rows.flatMap λr=>[47]::fV r)++[47]::kOuts::aU outs
def vT(h:RowOk k r)(o:k<=100):∀n∈(kY r).2,0<=n/\n<100/\n<bnd (kY r).1 k:=by
 cases r with
 |fix b =>
  intro n f;rw[Qay.mp f];have l:b=0\/b=1:=h;have:bnd vL k=2:=if_pos rfl;show 0<=b/\b<100/\b<bnd vL k;rw[this];omega
 |not a =>
  intro n f;rw[Qay.mp f];have j:=h.ws a (by simp[Row.ws]);have:bnd M7 k=k:=if_neg (by decide);show 0<=a/\a<100/\a<bnd M7 k;rw[this];omega
 |bin kd a b =>
  have j:=h.ws a (by simp[Row.ws]);have l:=h.ws b (by simp[Row.ws]);have i:∀w:Ab Nat,w≠vL->∀n∈[a,b],0<=n/\n<100/\n<bnd w k:=λw hw n f=>by
   have:bnd w k=k:=if_neg hw;rw[this];simp only[Qad,QaO,or_false]at f;rcases f with rfl|rfl<;>omega
  cases kd with
  |and=>exact i V9 (by decide)
  |or=>exact i kOr (by decide)
  |xor=>exact i V8 (by decide)
def K0(r:Row):Wo 4 (kY r).1/\(kY r).1≠[47]/\kc (kY r).1=some ((kY r).2.length:Int)/\(kY r).2.length<=2:=by
 cases r with
 |fix b=>exact(show Wo 4 vL/\vL≠[47]/\kc vL=some ((1:Nat):Int)/\1<=2 from⟨⟨by decide,by decide,by decide⟩,by decide,by decide,by decide⟩)
 |not a=>exact(show Wo 4 M7/\M7≠[47]/\kc M7=some ((1:Nat):Int)/\1<=2 from⟨⟨by decide,by decide,by decide⟩,by decide,by decide,by decide⟩)
 |bin k a b =>
  cases k with
  |and=>exact(show Wo 4 V9/\V9≠[47]/\kc V9=some ((2:Nat):Int)/\2<=2 from⟨⟨by decide,by decide,by decide⟩,by decide,by decide,by decide⟩)
  |or=>exact(show Wo 4 kOr/\kOr≠[47]/\kc kOr=some ((2:Nat):Int)/\2<=2 from⟨⟨by decide,by decide,by decide⟩,by decide,by decide,by decide⟩)
  |xor=>exact(show Wo 4 V8/\V8≠[47]/\kc V8=some ((2:Nat):Int)/\2<=2 from⟨⟨by decide,by decide,by decide⟩,by decide,by decide,by decide⟩)
def wG{n:Int}(a:0<=n)(h1:n<100):Wo 4 (cF n.toNat):=(wH (k:=1) (by omega)).mono (by decide)
def mP(m:Nat):cF m≠[47]:=λz=>by
 have:=xP m 47 (by rw[z];simp);omega
def Z6y{k:Int}{r:Row}(h:RowOk k r)(i:k<=100):(∀w∈fV r,Wo 4 w)/\[47]∉fV r/\(fV r).length<=3:=by
 obtain⟨h1,h2,h3,j⟩:=K0 r;have b:=vT h i;refine⟨λw hw=>?_,λf=>?_,by unfold fV aU;rw[Qaf,Qab];omega⟩
 .rcases Qad.mp hw with rfl|z
  .exact h1
  .obtain⟨n,a,rfl⟩:=QaL.mp z;exact wG (b n a).1 (b n a).2.1
 .rcases Qad.mp f with z|z
  .exact h2 z.symm
  .obtain⟨n,a,e⟩:=QaL.mp z;exact mP _ e
theorem uE:∀(ws:Ab (Ab Nat)) (ls:Ab (Ab (Ab Nat))) (g:Ab (Ab Nat)),[47]∉ws->ws.foldl eI (ls++[g])=ls++[g++ws]
 |[],ls,g,_=>by simp
 |w::ws,ls,g,h=>by
  have hw:w≠[47]:=λz=>h (by rw[z];exact Qai);have e:eI (ls++[g]) w=ls++[g++[w]]:=by
   unfold eI;rw[if_neg hw,List.dropLast_concat,List.getLastD_concat]
  rw[List.foldl_cons,e,uE ws ls (g++[w]) λz=>h (Qaa _ z)];simp
def vA(ws:Ab (Ab Nat))(ls:Ab (Ab (Ab Nat)))(h:[47]∉ws):([47]::ws).foldl eI ls=ls++[ws]:=by
 have e:eI ls [47]=ls++[[]]:=if_pos rfl;rw[List.foldl_cons,e,uE ws ls [] h];simp
theorem yJ:∀(rows:Ab Row) (ls:Ab (Ab (Ab Nat))),(∀r∈rows,[47]∉fV r)->(rows.flatMap λr=>[47]::fV r).foldl eI ls=ls++rows.map fV
 |[],ls,_=>by simp
 |r::rows,ls,h=>by
  rw[List.flatMap_cons,List.foldl_append,vA _ _ (h r Qai),yJ rows _ λq hq=>h q (Qaa _ hq)];simp
def Z4R:[47]∉aU ns:=λz=>by
 obtain⟨n,a,e⟩:=QaL.mp z;exact mP _ e
def Z4U(h:∀r∈rows,[47]∉fV r):Z0P (tK ins rows outs)=[kIns,cF ins]::rows.map fV++[kOuts::aU outs]:=by
 unfold Z0P tK;have h1:[47]∉[kIns,cF ins]:=by
  intro z;simp only[Qad,QaO,or_false]at z;rcases z with z|z
  .exact absurd z (by decide)
  .exact mP _ z.symm
 have h2:[47]∉kOuts::aU outs:=by
  intro z;rcases Qad.mp z with z|z
  .exact absurd z (by decide)
  .exact Z4R z
 rw[show kIns::cF ins::(rows.flatMap λr=>[47]::fV r)++[47]::kOuts::aU outs=[kIns,cF ins]++((rows.flatMap λr=>[47]::fV r)++([47]::kOuts::aU outs)) by simp];rw[List.foldl_append,List.foldl_append];have a:=uE [kIns,cF ins] [] [] h1;simp only[Qbq]at a;rw[a,yJ rows _ h,vA _ _ h2];simp
def mM(a:RowsOk ins rows)(f:ins+rows.length<=100):∀r∈rows,(∀w∈fV r,Wo 4 w)/\[47]∉fV r/\(fV r).length<=3:=λr hm=>by
 obtain⟨i,hi⟩:=Qa1 hm;have b:i<rows.length:=(Qac.mp hi).1;exact Z6y (a i r hi) (by omega)
def Z7p{ins:Nat}{rows:Ab Row}{outs:Ab Int}(hi:ins<=8)(b:RowsOk ins rows)(h:ins+rows.length<=100)(a:Ho ins rows outs):∀w∈tK ins rows outs,Wo 4 w:=by
 intro w hw;unfold tK at hw;simp only[Qa3,Qad,Qah,List.mem_flatMap]at hw;rcases hw with rfl|rfl|⟨r,hm,z⟩|rfl|rfl|z
 .exact⟨by decide,by decide,by decide⟩
 .exact(wH (k:=1) (by omega)).mono (by decide)
 .rcases z with rfl|z
  .exact⟨by decide,by decide,by decide⟩
  .exact(mM b h r hm).1 w z
 .exact⟨by decide,by decide,by decide⟩
 .exact⟨by decide,by decide,by decide⟩
 .obtain⟨n,f,rfl⟩:=QaL.mp z;have:=a n f;exact wG this.1 (by omega)
theorem iR:∀{rows:Ab Row},(∀r∈rows,(fV r).length<=3)->(rows.flatMap λr=>[47]::fV r).length<=4*rows.length
 |[],_=>by simp
 |r::rows,h=>by
  have h1:=iR (rows:=rows) λq hq=>h q (Qaa _ hq);have h2:=h r Qai;simp only[List.flatMap_cons,Qav,Qaf];omega
def Z4T(h:∀r∈rows,(fV r).length<=3)(b:rows.length<=10)(a:outs.length<=16):(tK ins rows outs).length<=60:=by
 have:=iR h;unfold tK aU;simp only[Qa3,Qaf,Qav,Qab];omega
def Z4l{C CE:Af}{ins:Nat}{rows:Ab Row}{outs:Ab Int}(hi:ins<=8)(x:RowsOk ins rows)(U:rows.length<=10)(A:Ho ins rows outs)(h1:0<outs.length)(h2:outs.length<=16) :
  qF C CE [.lst ((Z0P (tK ins rows outs)).map λl=>SS (jn l))]=some (bE C ins rows outs):=by
 have p:=mM x (by omega);have K:∀w∈[kIns,cF ins],Wo 4 w:=λw hw=>by
  simp only[Qad,QaO,or_false]at hw;rcases hw with rfl|rfl
  .exact⟨by decide,by decide,by decide⟩
  .exact(wH (k:=1) (by omega)).mono (by decide)
 have I:∀w∈kOuts::aU outs,Wo 4 w:=λw hw=>by
  rcases Qad.mp hw with rfl|z
  .exact⟨by decide,by decide,by decide⟩
  .obtain⟨n,f,rfl⟩:=QaL.mp z;have:=A n f;exact wG this.1 (by omega)
 have t:(aU outs).length=outs.length:=by unfold aU;rw[Qab]
 have B:Ls (jn [kIns,cF ins]):=W0 K (by simp);have M:Ls (jn (kOuts::aU outs)):=W0 I (by rw[Qaf,t];omega);have E:∀l∈rows.map λr=>jn (fV r),Ls l:=λl hl'=>by
  obtain⟨r,a,rfl⟩:=QaL.mp hl';exact W0 (p r a).1 (by have:=(p r a).2.2;omega)
 have N:Wds (jn [kIns,cF ins])=[kIns,cF ins]:=yC K (by simp);have L:Wds (jn (kOuts::aU outs))=kOuts::aU outs:=yC I (by simp);have H:∀r∈rows,Wds (jn (fV r))=(kY r).1::aU (kY r).2:=λr a=>yC (p r a).1 (by unfold fV;simp);have v:∀{ns:Ab Int},(∀n∈ns,0<=n/\n<100)->∀n∈ns,Nm n:=λh n f=>by have:=h n f;unfold Nm;omega
 have o:∀{n b:Int},0<=n->n<100->n<b->okB b (cF n.toNat)=true:=λ{n b} h0 h1 h2=>by
  unfold okB;rw[Z1H (by omega),rN,Rj (by omega)];rfl
 obtain⟨d,O,S,_⟩:=Z6A (C:=C) (CE:=CE) (mid:=rows.map λr=>jn (fV r)) B E M (by rw[Qab];omega);have J:W5 (jn [kIns,cF ins])=some (ins:Int):=by
  unfold W5;rw[N];have:okB 9 (cF ins)=true:=by have:=o (n:=(ins:Int)) (b:=9) (by omega) (by omega) (by omega);simpa using this
  show(if (decide (kIns=kIns)&&okB 9 (cF ins))=true then some (dvI (cF ins)) else none)=_;rw[this,Rj rfl,rN];rfl
 have R:Z5t (jn [kIns,cF ins]) (rows.map λr=>jn (fV r)) (jn (kOuts::aU outs)):=by
  refine⟨ins,J,λi l hl'=>?_,?_⟩
  .rw[QaD]at hl';obtain⟨r,j,rfl⟩:=Option.map_eq_some_iff.mp hl';have F:i<rows.length:=(Qac.mp j).1;have G:=x i r j;have y:=QaT j;obtain⟨_,_,k3,_⟩:=K0 r;have k5:=vT G (by omega);unfold vK;rw[H r y];show(decide (kc (kY r).1=some ((aU (kY r).2).length:Int))&&(aU (kY r).2).all (okB (bnd (kY r).1 ((ins:Int)+(i:Int)))))=true;rw[Qam];refine⟨Rj (by rw[k3];unfold aU;rw[Qab]),QaS.mpr λw hw=>?_⟩;obtain⟨n,f,rfl⟩:=QaL.mp hw;have q:=k5 n f;rw[show((ins+i:Nat):Int)=(ins:Int)+(i:Int) by omega]at q;exact o q.1 q.2.1 q.2.2
  .unfold B7;rw[L];rw[Qab];show(decide (kOuts=kOuts)&&(decide (1<=(aU outs).length)&&decide ((aU outs).length<=16))&&(aU outs).all (okB ((ins:Int)+(rows.length:Int))))=true;rw[t,Rj rfl,Rj (show 1<=outs.length by omega),Rj h2];refine QaS.mpr λw hw=>?_;obtain⟨n,f,rfl⟩:=QaL.mp hw;have q:=A n f;exact o q.1 (by omega) (by omega)
 obtain⟨n,i1,i2⟩:=S R;rw[J]at i1;cases i1;have P:(rows.map λr=>jn (fV r)).map zM=rows.map Row.d:=by
  rw[Qa8];refine List.map_congr_left λr a=>?_;show zM (jn (fV r))=r.d;unfold zM;rw[H r a,Z4f];obtain⟨i,u⟩:=Qa1 a;have F:i<rows.length:=(Qac.mp u).1;show D.tup (SS (kY r).1::((aU (kY r).2).map dvI).map D.int)=_;rw[xO (v λn f=>by have:=vT (x i r u) (by omega) n f;omega)]
 have Q:((Wds (jn (kOuts::aU outs))).drop 1).map dvI=outs:=by
  rw[L];show(aU outs).map dvI=outs;exact xO (v λn f=>by have:=A n f;omega)
 rw[Z4U (λr a=>(p r a).2.1)];have T:([kIns,cF ins]::rows.map fV++[kOuts::aU outs]).map (λl=>SS (jn l))=(jn [kIns,cF ins]::(rows.map λr=>jn (fV r))++[jn (kOuts::aU outs)]).map SS:=by
  simp[Function.comp_def]
 rw[T,O,i2,P,Q];rfl
theorem V6(hi:ins<=8)(hr:RowsOk ins rows)(hl:rows.length<=10)(ho:Ho ins rows outs)(h2:outs.length<=16):lO C [aN ins rows outs]=some (.lst ((kNew::tK ins rows outs).map SS)):=by
 have hm:=mM hr (by omega);have strW:∀{ns:Ab Int}{src:En->Aa (Ab D)}{env:En},src env=some (ns.map D.int)->(∀n∈ns,0<=n/\n<100)->ns.length<=100->cT [] src fTT (fB1 sJ (aA (aD 0) aF)) env=some (.lst ((aU ns).map SS)):=λ{ns src env} hs hn hl=>by
  rw[cO D.int (λn=>SS (cF n.toNat)) (xs:=ns) hs (by omega) (λn hn'=>cN (xs:=[.int n]) rfl (Z0W (hn n hn').1 (by have:=(hn n hn').2;omega)))];unfold aU;rw[Qa8];rfl
 refine bS ?_;show lQ C [oF (aN ins rows outs),none,none]=_;unfold lQ;refine mB (d:=.lst ([kNew,kIns,cF ins].map SS)) ?_ ?_
 .have e1:fB1 sJ (aA (fIx (aD 0) (fC (.int 0))) aF) [oF (aN ins rows outs),none,none]=some (SS (cF ins)):=cN (xs:=[.int (ins:Int)]) rfl (Z0W (n:=(ins:Int)) (by omega) (by omega));rw[ev_Lst,aI (d:=SS kNew) (by rw[ev_C,Z46];rfl) (aI (d:=SS kIns) (by rw[ev_C,Z8a];rfl) (aI e1 rfl))];rfl
 have catS:∀{xs ys:Ab (Ab Nat)}{fa fb:En->Aa D}{env:En},fa env=some (.lst (xs.map SS))->fb env=some (.lst (ys.map SS))->xs.length+ys.length<=1000->oJ fa fb env=some (.lst ((xs++ys).map SS)):=λ{xs ys fa fb env} a b h=>by
  rw[ev_CatF,a,b];show(if (flats (xs.map SS)=true/\flats (ys.map SS)=true)/\(xs.map SS).length+(ys.map SS).length<=1000 then some (D.lst (xs.map SS++ys.map SS)) else none)=_;rw[if_pos ⟨⟨kQ _,kQ _⟩,by rw[Qab,Qab];exact h⟩,QaI]
 have catS2:∀{xs ys:Ab (Ab Nat)}{fa fb:En->Aa D}{env:En},fa env=some (.lst (xs.map SS))->fb env=some (.lst (ys.map SS))->xs.length+ys.length<=1000->vO fa fb env=some (.lst ((xs++ys).map SS)):=λ{xs ys fa fb env} a b h=>by
  rw[ev_cat,a,b];show(if (xs.map SS).length+(ys.map SS).length<=1000 then some (D.lst (xs.map SS++ys.map SS)) else none)=_;rw[if_pos (by rw[Qab,Qab];exact h),QaI]
 refine qV (ds:=rows.map Row.d) rfl (λi env=>∃x,env=[oF (aN ins rows outs),oT (.lst ((kNew::kIns::cF ins::((rows.take i).flatMap λr=>[47]::fV r)).map SS)),x]) ⟨none,rfl⟩ ?_ ?_
 .rintro i d env hd ⟨x,rfl⟩;obtain⟨r,hr1,rfl⟩:=iO hd;have hlt:i<rows.length:=(Qac.mp hr1).1;have hmem:=QaT hr1;have k5:=vT (hr i r hr1) (by omega);have k4:=(K0 r).2.2.2;have hfl:=iR (rows:=rows.take i) λq hq=>(hm q (List.mem_of_mem_take hq)).2.2;have htl:(rows.take i).length<=10:=by rw[QaR];omega
  refine⟨_,[oF (aN ins rows outs),oT (.lst ((kNew::kIns::cF ins::((rows.take (i+1)).flatMap λr=>[47]::fV r)).map SS)),oF r.d],rfl,?_,oF r.d,rfl⟩;show aW 1 _ [oF (aN ins rows outs),oT (.lst ((kNew::kIns::cF ins::((rows.take i).flatMap λr=>[47]::fV r)).map SS)),oF r.d]=_;have e1:cT [] (fZ (aD 2)) fTT (fB1 sJ (aA (aD 0) aF)) [oF (aN ins rows outs),oT (.lst ((kNew::kIns::cF ins::((rows.take i).flatMap λr=>[47]::fV r)).map SS)),oF r.d]=some (.lst ((fV r).map SS)):=by
   let φ:Sum (Ab Nat) Int->D:=λp=>match p with | .inl l=>SS l | .inr n=>.int n
   let ψ:Sum (Ab Nat) Int->D:=λp=>match p with | .inl l=>SS l | .inr n=>SS (cF n.toNat)
   rw[cO φ ψ (xs:=.inl (kY r).1::(kY r).2.map Sum.inr) (by
    rw[ev_seq];show(match some r.d with|some (.lst ds)=>some ds|some (.tup ds)=>some ds|_=>none)=_
    rw[Z4f];simp[φ,Function.comp_def]) (by simp only[Qaf,Qab];omega) (λp hp=>?_)]
   .unfold fV aU;simp[ψ,Function.comp_def]
   .rcases Qad.mp hp with rfl|z
    .exact cN (xs:=[SS (kY r).1]) rfl rfl
    .obtain⟨n,hn,rfl⟩:=QaL.mp z;exact cN (xs:=[.int n]) rfl (Z0W (k5 n hn).1 (by have:=(k5 n hn).2;omega))
  unfold aW;rw[catS2 (catS (ys:=[[47]]) rfl (by rw[ev_Lst,aI (d:=SS [47]) (by rw[ev_C,G6];rfl) rfl];rfl) (by simp only[Qaf,Qa2];omega)) e1 (by have:=(hm r hmem).2.2;simp only[Qav,Qaf,Qa2];omega)];rw[Qbe,hr1,List.flatMap_append];simp
 .rintro env ⟨x,rfl⟩;rw[Qab,QaW];have hfl:=iR (rows:=rows) λq hq=>(hm q hq).2.2;have hol:(aU outs).length=outs.length:=by unfold aU;rw[Qab]
  refine cR ?_;rw[catS2 (catS (ys:=[[47],kOuts]) rfl (by rw[ev_Lst,aI (d:=SS [47]) (by rw[ev_C,G6];rfl) (aI (d:=SS kOuts) (by rw[ev_C,Z45];rfl) rfl)];rfl) (by simp only[Qaf,Qa2];omega)) (strW (ns:=outs) rfl (λn hn=>by have:=ho n hn;omega) (by omega)) (by rw[hol];simp only[Qav,Qaf,Qa2];omega)];unfold tK;simp
def Z5y{C CD:Af}:xW C CD []=some (bW CD (bE C 0 [.fix 0] [0])):=by
 have a:=Z7r (C:=C) (ins:=0) (rows:=[.fix 0]) (outs:=[0]) (by decide);have e:fB1 (fR C) (aA (kI 0) (aA (cW (aA (fT (aA (kS "fix") (aA (kI 0) aF))) aF)) (aA (cW (aA (kI 0) aF)) aF))) [none]=some (bE C 0 [.fix 0] [0]):=cN (xs:=[.int 0,.lst ([Row.fix 0].map Row.d),LI [0]]) rfl a;unfold xW;simp only;rw[e];rfl
theorem U4:∀(ns:Ab Int),pln.plns (ns.map D.int)=true
 |[]=>rfl
 |n::ns=>by show(pln (.int n)&&pln.plns (ns.map D.int))=true;rw[U4 ns];rfl
theorem U3:∀(rows:Ab Row),pln.plns (rows.map Row.d)=true
 |[]=>rfl
 |r::rows=>by
  show(pln r.d&&pln.plns (rows.map Row.d))=true;rw[U3 rows];cases r<;>rfl
def Z4D{C:Af}{ins:Int}{rows:Ab Row}{outs:Ab Int}:pln (bE C ins rows outs)=true:=by
 show(pln (.int ins)&&(pln.plns (rows.map Row.d)&&(pln.plns (outs.map D.int)&&true)))=true;rw[U3,U4];rfl
def Z54{C CL CE CW CD:Af}(U:CL≠CE)(H:CL≠CW)(T:CE≠CW)(ns:Ab Int)(u:ns.length<=63)(h:∀i∈ns,Builtin.Int.intBits i<=1048576):Z8j C CL CE CW CD [.lst (ns.map D.int)]=some (.bl true):=by
 obtain⟨_,S,ins,rows,outs,E,j,t,J,o,l,v,rfl⟩:=Z7B (C:=C) u h;refine bS ?_;show Z5k C CL CE CW CD [oF (.lst (ns.map D.int)),none,none,none,none]=_;unfold Z5k;show(cD _ _ _ []).1=_;refine congrArg Prod.fst (a₂:=(Res.ret (.bl true),([]:Ab D))) ?_;refine lK (aP (xs:=[LI ns]) rfl S) ?_;refine Z4s (d:=.bl true) Z5y (by show pln (bW CD (bE C 0 [.fix 0] [0]))=true;rfl) λa=>?_;refine⟨bW CD (bE C ins rows outs),?_⟩;show cD _ _ [oF (.lst (ns.map D.int)),oT (aN ins rows outs),oT (.fn a [] []),none,none] [bW CD (bE C 0 [.fix 0] [0])]=_;have W:=mM j (by omega);have O:=Z7p (outs:=outs) (by omega) j (by omega) l;have nl:=Z4T (ins:=ins) (outs:=outs) (λr hr'=>(W r hr').2.2) (by omega) o;have p:∀w∈kNew::tK ins rows outs,Wo 4 w:=λw hw=>by
  rcases Qad.mp hw with rfl|z
  .exact⟨by decide,by decide,by decide⟩
  .exact O w z
 have q:(kNew::tK ins rows outs).length*(4+1)<=400:=by rw[Qaf];omega
 have sn:=Z1p (c:=bE C 0 [.fix 0] [0]) (Z6m (C:=C) (CL:=CL) (CE:=CE) (CW:=CW) (CD:=CD) (a:=a) (c0:=bE C 0 [.fix 0] [0]) (Z8y (by unfold tK;simp) p q) (Z4l (by omega) j t l J o) (λC e=>by cases e) Z4D) (λC e=>by cases e) rfl;have Y:=V6 (C:=C) (outs:=outs) (by omega) j t l o;refine rV (e:=[oF (.lst (ns.map D.int)),oT (aN ins rows outs),oT (.fn a [] []),none,none]) (w1:=[bW CD (bE C ins rows outs)]) (Z4p (w1:=[bW CD (bE C ins rows outs)]) ?_ rfl) ?_
 .rw[Z5m (b:=true) (O0 (ds:=[SS (jn (kNew::tK ins rows outs))]) (aI rfl (aI (pE p q (aP (xs:=[aN ins rows outs]) rfl Y)) rfl)) sn) (y:=.str "ok") rfl (uG _)];rfl
 have L:=dC ns;obtain⟨f,P,Z,A⟩:∃f:Ab Int,PD.cutD (ns.map D.int) (some 2) (some 63)=f.map D.int/\f.length<=63/\∀c∈f,c∈ns:=by
  refine⟨(ns.drop (HT.sIx ns.length 0 (some 2))).take (HT.sIx ns.length ns.length (some 63)-HT.sIx ns.length 0 (some 2)),?_,?_,λc hc=>List.mem_of_mem_drop (List.mem_of_mem_take hc)⟩
  .unfold PD.cutD;rw[Qab,List.map_take,List.map_drop]
  .rw[QaR,List.length_drop];omega
 have X:fSl (aD 0) (fP (kI 2)) (fP (kI 63)) [oF (.lst (ns.map D.int)),oT (aN ins rows outs),oT (.fn a [] []),none,none]=some (.lst (f.map D.int)):=by
  unfold fSl;show(if flats (ns.map D.int)=true then some (D.lst (PD.cutD (ns.map D.int) (some 2) (some 63))) else none)=_;rw[if_pos L,P]
 refine lK (d:=LI (f++[1,2])) ?_ ?_
 .rw[ev_cat,X];show(if (f.map D.int).length+[D.int 1,.int 2].length<=1000 then some (D.lst (f.map D.int++[D.int 1,.int 2])) else none)=_;rw[if_pos (by rw[Qab];simp only[Qaf,Qa2];omega)];simp[LI]
 have B:∀c∈f++[1,2],Builtin.Int.intBits c<=1048576:=λc hc=>by
  rcases Qah.mp hc with z|z
  .exact h c (A c z)
  .simp only[Qad,QaO,or_false]at z;rcases z with rfl|rfl<;>decide +kernel
 have K:(f++[1,2]).length<=65:=by rw[Qav];simp only[Qaf,Qa2];omega
 generalize f++[1,2]=cs at *
 have M:bG [LI cs]=some (.int (cs.length:Int)):=by simp only[bG,LI,Qab]
 refine Z4q (ds:=(List.range cs.length).map λ(k:Nat)=>.int (k:Int)) (gU (xs:=[.int (cs.length:Int)]) (aI (cN (xs:=[LI cs]) rfl M) rfl) (wX (by omega)))
  (λi env=>∃x,env=[oF (.lst (ns.map D.int)),oT (aN ins rows outs),oT (.fn a [] []),oT (LI cs),x]) ⟨none,rfl⟩ ?_ ?_
 .rintro i d env hd ⟨x,rfl⟩;obtain⟨hi,rfl⟩:=gQ hd;refine⟨[oF (.lst (ns.map D.int)),oT (aN ins rows outs),oT (.fn a [] []),oT (LI cs),oF (.int (i:Int))],?_,_,rfl⟩;show nF _ _ _ [oF (.lst (ns.map D.int)),oT (aN ins rows outs),oT (.fn a [] []),oT (LI cs),oF (.int (i:Int))] _=_;have R:=gP (vs:=cs) (a:=(i:Int)) (by omega) (by omega);have F:=M5 (vs:=cs) (a:=(i:Int)) (by omega) (by omega);obtain⟨n,I,m1,G⟩:=Z1N (C:=C) (c:=nth cs i) (k:=(i:Int)+7) (QaE (B _ F) (by decide)) (by omega) (by omega);have N:=Z7C (C:=C) (CL:=CL) (CE:=CE) (CW:=CW) (CD:=CD) (a:=a) (ins:=ins) (rows:=rows) (outs:=outs) U H T E (by omega) v j o l I m1;refine Z4p (w1:=[bW CD (bE C ins rows outs)]) ?_ rfl;have ex:fIx (aD 3) (aD 4) [oF (.lst (ns.map D.int)),oT (aN ins rows outs),oT (.fn a [] []),oT (LI cs),oF (.int (i:Int))]=some (.int (nth cs i)):=R;have Q:zQ [a] 0 (pC C CL CE CW CD) (aA (aD 2) (aA (aD 1) (aA (aJ (iF C) [] (aA (fIx (aD 3) (aD 4)) (aA (fAd (aD 4) (kI 7)) aF))) aF))) [oF (.lst (ns.map D.int)),oT (aN ins rows outs),oT (.fn a [] []),oT (LI cs),oF (.int (i:Int))] [bW CD (bE C ins rows outs)]=some (.bl true,[bW CD (bE C ins rows outs)]) :=
   O0 (ds:=[aN ins rows outs,.int n]) (aI rfl (aI rfl (aI (aP (xs:=[.int (nth cs i),.int ((i:Int)+7)]) (aI ex (aI rfl rfl)) G) rfl))) N
  unfold Z7M gB;rw[Q];rfl
 .rintro env ⟨x,rfl⟩;exact Z9r rfl
end G
namespace FR
open PySem PySem.W PySem.Calls PyProof.Rows
structure TC where
 p:Aj
 w:Ak
 m:Nat
 a:Aa Ad
 b:Ab Stmt
 e:Env
 q:Pos
variable {z:TC}{α β:Type}{s s' s'' s₁ s₂:Ac}
def Go(z:TC)(n:Nat)(s:Ac)(t:Thread)(s':Ac)(t':Thread):Prop :=
 ∀N r,topRun treeTable z.p z.w z.m z.a N s' t'=some r->topRun treeTable z.p z.w z.m z.a (n+N) s t=some r
def Go.refl:Go z 0 s t s t:=λN r h=>by rw[Qbh];exact h
def Go.trans(a:Go z n s t s' t')(b:Go z m s' t' s'' t''):Go z (n+m) s t s'' t'' :=
 λN r h=>by rw[Nat.add_assoc];exact a _ _ (b _ _ h)
def Go.mono(l:n<=m){s s':Ac}{t t':Thread}(a:Go z n s t s' t'):Go z m s t s' t':=λN r h=>by
 have:=topRun_mono (m-n) _ _ _ _ (a N r h);rw[show n+N+(m-n)=m+N by omega]at this;exact this
theorem Go.step(h1:through t=false)(h2:stepOk z.m z.a t=true)(h3:step (denote treeTable) z.p z.w s t=.go s' t'):Go z 1 s t s' t':=λN r h=>by
 rw[Nat.add_comm];unfold topRun;rw[h1,h2,h3];exact h
def Go.of_topGo(h:topGo treeTable z.p z.w z.m z.a n s t=some (s',t')):Go z n s t s' t':=λN r k=>go_top h k
def goT(p:Aj)(w:Ak)(m0:Nat)(ann:Aa Ad):Nat->SharedT->Thread->Aa (SharedT×Thread)
 |0,s,t=>some (s,t)
 |n+1,s,t=>match through t with
  |true=>none
  |false=>match stepOk m0 ann t with
   |false=>none
   |true=>match stepT (denote treeTable) p w s t with
    |some (s',t')=>goT p w m0 ann n s' t'
    |none=>none
theorem Z5g:∀{n:Nat}{s s':SharedT}{t t':Thread},goT z.p z.w z.m z.a n s t=some (s',t')->topGo treeTable z.p z.w z.m z.a n s.abs t=some (s'.abs,t')
 |0,_,_,_,_,h=>by cases h;rfl
 |n+1,s,s',t,t',h=>by
  unfold goT at h;unfold topGo;cases he:through t with
  |true=>rw[he]at h;cases h
  |false =>
   rw[he]at h;cases b:stepOk z.m z.a t with
   |false=>rw[b]at h;cases h
   |true =>
    rw[b]at h;cases hs:stepT (denote treeTable) z.p z.w s t with
    |none=>rw[hs]at h;cases h
    |some r=>obtain⟨s₂,f⟩:=r;rw[hs]at h;rw[stepT_spec hs];exact Z5g h
def Go.of_goT{n:Nat}{s s':SharedT}{t t':Thread}(h:goT z.p z.w z.m z.a n s t=some (s',t')):Go z n s.abs t s'.abs t':=Go.of_topGo (Z5g h)
def Tp(z:TC){α:Type}(n:Nat)(m:Sem α)(s:Ac)(a:α)(s':Ac):Prop :=
 ∀(K:α->Sem Fin) (H:Ad->Sem Fin) (gd:Bool->Bool) (lv:Ab Ad->Ab Ad) (pos:Pos),∃pos',Go z n s ⟨m.wrap K H gd lv,.body z.b z.e,pos,[topFrame z.q]⟩ s' ⟨K a,.body z.b z.e,pos',[topFrame z.q]⟩
theorem Tp.mono(l:n<=k)(h:Tp z n m s a s'):Tp z k m s a s':=λK H b f pos =>
 let ⟨pos',g⟩:=h K H b f pos;⟨pos',g.mono l⟩
theorem Tp.pure:Tp z 0 (Pure.pure a:Sem α) s a s:=λK H gd lv pos=>⟨pos,Go.refl⟩
def Tp.bind{n k:Nat}{m:Sem α}{f:α->Sem β}{a:α}{x:β}(h:Tp z n m s a s')(h':Tp z k (f a) s' x s'') :
  Tp z (n+k) (m >>= f) s x s'':=λK H gd lv pos=>by
 obtain⟨pos',g⟩:=h (λa=>(f a).wrap K H gd lv) (λe=>(Sem.raise e:Sem β).wrap K H gd lv) (λg=>gd (id g)) (λl=>lv (id l)) pos;obtain⟨b,g'⟩:=h' K H gd lv pos';refine⟨b,?_⟩;rw[Sem.bind_eq_wrap',Sem.wrap_wrap];exact g.trans g'
theorem Tp.keep(h:Tp z n m s a s'):Tp z n (m.keep vs) s a s':=λK H gd lv pos=>by
 obtain⟨pos',g⟩:=h K H (λg=>gd (id g)) (λl=>lv (vs++l)) pos;refine⟨pos',?_⟩;rw[Sem.keep_eq_wrap,Sem.wrap_wrap];exact g
theorem Tp.holding(h:Tp z n m s a s'):Tp z n (holding vs m) s a s':=by
 unfold PySem.holding;split
 .exact h
 .exact h.keep
theorem Tp.rule:Tp z 1 (rule tag) s () s:=λK H a b pos =>
 ⟨pos,Go.step rfl rfl rfl⟩
theorem Tp.standAt:Tp z 1 (standAt ps) s () s:=λK H gd lv pos=>⟨ps,Go.step rfl rfl rfl⟩
theorem Tp.loadPart(h:s.heap.get? a=some o):Tp z 1 (loadPart a part) s o s:=λK H gd lv pos=>by
 obtain⟨heap,gens,drawn,toks,os⟩:=s;refine⟨pos,Go.step rfl rfl ?_⟩;show step (denote treeTable) z.p z.w _ ⟨.load a part _,_,_,_⟩=_;simp only[step,show heap.get? a=some o from h]
 rfl
theorem Tp.updatePart(h:(s.heap.get? a).isSome=true)(b:Nat.ble z.m a=true):Tp z 1 (updatePart a part f) s () { s with heap:=s.heap.update a f }:=λK H gd lv pos=>by
 obtain⟨heap,gens,drawn,toks,os⟩:=s;refine⟨pos,Go.step rfl ?_ ?_⟩
 .show((true&&(true&&true))&&(Nat.ble z.m a||a==mainNs||a==cStatics||z.a==some (.ref a)))=true;rw[b];rfl
 .show step (denote treeTable) z.p z.w _ ⟨.update a part f _,_,_,_⟩=_;simp only[step,show(heap.get? a).isSome=true from h,Rl]
  rfl
theorem Tp.alloc:Tp z 1 (alloc o) s s.heap.objs.size { s with heap:=s.heap.push o }:=λK H gd lv pos=>by
 obtain⟨heap,gens,drawn,toks,os⟩:=s;exact⟨pos,Go.step rfl rfl rfl⟩
theorem Tp.dictEntries(h:s.heap.get? a=some o)(hd:o.data=.dict es n):Tp z 1 (dictEntries a part) s es s:=by
 unfold PySem.dictEntries;refine Tp.bind (n:=1) (k:=0) (Tp.loadPart h) ?_;rw[hd];exact Tp.pure
theorem Tp.dictEpoch(h:s.heap.get? a=some o)(hd:o.data=.dict es n):Tp z 1 (dictEpoch a part) s n s:=by
 unfold PySem.dictEpoch;refine Tp.bind (n:=1) (k:=0) (Tp.loadPart h) ?_;rw[hd];exact Tp.pure
theorem Tp.forIn{c:Nat}{f:α->β->Sem (ForInStep β)}{x:β}:∀(l:Ab α),(∀a∈l,Tp z c (f a x) s (.yield x) s)->Tp z (l.length*c) (forIn l x f) s x s
 |[],_=>by rw[List.forIn_nil];exact Tp.mono (QaY _) Tp.pure
 |a::l,h=>by
  rw[Qa6];refine Tp.mono (show c+l.length*c<=(a::l).length*c by rw[Qaf,Nat.succ_mul];omega) ?_;exact Tp.bind (h a Qai) (Tp.forIn l λa ha=>h a (Qaa _ ha))
theorem Tp.tableMayTell{c:Nat}{b:Ad}{a:Ab Ad}(f:Tp z c (eqIsQuiet 8 b) s true s)(hs:∀v∈a,Tp z c (eqIsQuiet 8 v) s true s) :
  Tp z (c+a.length*c) (tableMayTell b a) s false s:=by
 unfold PySem.tableMayTell;split
 .exact Tp.mono (QaY _) Tp.pure
 .refine Tp.bind (n:=c) f ?_;simp only[Bool.not_true,QaU,Rm];refine Tp.mono (show a.length*c+0<=_ by omega) ?_;refine Tp.bind (Tp.forIn (c:=c) _ λv hv=>?_) Tp.pure;refine Tp.mono (show c+0<=c by omega) ?_;refine Tp.bind (hs v hv) ?_;simp only[Bool.not_true,QaU,Rm];exact Tp.pure
def Z2I(n:Nat)(f:Nat->Aa Int)(h:Int):(placesWithHash n f h).length<=n:=by
 unfold placesWithHash;exact QaE (List.length_filter_le _ _) (by rw[QaZ];exact Qap _)
theorem rX(f:α->Aa β):∀l:Ab α,(l.filterMap f).length<=l.length
 |[]=>Qap _
 |a::l=>by
  have:=rX f l;rw[List.filterMap_cons];split<;>simp only[Qaf]<;>omega
def Tp.dictFind_none{d a:Af}{o:Obj}{es:Ae DictEntry}{ep:Nat}{h:Int}{ce cq:Nat}(j:s.heap.get? d=some o)(hd:o.data=.dict es ep)
  (y:∀e∈es,(e.key == .ref a)=false) (hq:Tp z cq (eqIsQuiet 8 (.ref a)) s true s) (p:∀e∈es,Tp z cq (eqIsQuiet 8 e.key) s true s)
  (r:∀e∈es,Tp z ce (eqBool e.key (.ref a)) s false s) :
  Tp z (1+(cq+es.size*cq)+es.size*(ce+3)) (dictFind d (.ref a) h) s none s:=by
 have f:¬(es.any λe=>e.key==Value.ref a&&e.hash != h)=true:=by
  rw[<- Array.any_toList,List.any_eq_true];rintro⟨e,q,hc⟩;rw[y e (Array.mem_toList_iff.mp q)]at hc;cases hc
 have l:∀v∈(placesWithHash es.size (λi=>es[i]?.map (·.hash)) h).filterMap (λi=>es[i]?.map (·.key)),Tp z cq (eqIsQuiet 8 v) s true s:=by
  intro v x;obtain⟨i,_,hi⟩:=List.mem_filterMap.mp x;cases hei:es[i]? with
  |none=>rw[hei]at hi;cases hi
  |some e =>
   rw[hei]at hi;obtain rfl:e.key=v:=by simpa using hi
   exact p e (Array.mem_of_getElem? hei)
 have u:=Z2I es.size (λi=>es[i]?.map (·.hash)) h;have w:=rX (λi=>es[i]?.map (·.key)) (placesWithHash es.size (λi=>es[i]?.map (·.hash)) h);have B:((placesWithHash es.size (λi=>es[i]?.map (·.hash)) h).filterMap (λi=>es[i]?.map (·.key))).length*cq<=es.size*cq:=Nat.mul_le_mul_right _ (QaE w u);have A:(placesWithHash es.size (λi=>es[i]?.map (·.hash)) h).length*(ce+3)<=es.size*(ce+3):=Nat.mul_le_mul_right _ u;unfold PySem.dictFind;refine Tp.holding ?_;refine Tp.mono (show 1+((cq+es.size*cq)+es.size*(ce+3))<=_ by omega) ?_;refine Tp.bind (Tp.dictEntries j hd) ?_;dsimp only;rw[if_neg (show ¬((Value.ref a::(placesWithHash es.size (λi=>es[i]?.map (·.hash)) h).filterMap (λi=>es[i]?.map (·.key))).all carriedByValue)=true by simp[carriedByValue])];rw[if_neg f];by_cases b:(((placesWithHash es.size (λi=>es[i]?.map (·.hash)) h).filterMap (λi=>es[i]?.map (·.key)))==[Value.ref a])=true <;>
 (first | rw [if_pos b] | rw [if_neg b]) <;> (first | refine Tp.bind (n:=cq + es.size * cq) (Tp.mono (QaY _) Tp.pure) ?_ | refine Tp.bind (n:=cq + es.size * cq) (Tp.mono (by omega) (Tp.tableMayTell hq l)) ?_) <;> (
  rw[if_neg (by simp)];refine Tp.mono (show(placesWithHash es.size (λi=>es[i]?.map (·.hash)) h).length*(ce+3)+0<=_ by omega) ?_;refine Tp.bind (Tp.forIn (c:=ce+3) _ λi hi=>?_) Tp.pure;cases hei:es[i]? with
  |none=>dsimp only;exact Tp.mono (QaY _) Tp.pure
  |some e =>
   dsimp only;by_cases t:(e.hash==h)=true
   .rw[if_pos t];have he:=r e (Array.mem_of_getElem? hei);refine Tp.mono (show 1+(ce+(1+(1+0)))<=ce+3 by omega) ?_;refine Tp.bind (Tp.dictEpoch j hd) (Tp.bind he (Tp.bind (Tp.dictEpoch j hd) ?_));rw[if_neg (by simp)];simp only[QaU,Rm];refine Tp.bind Tp.rule ?_
    first|rw[if_neg (by simp)]|skip
    exact Tp.pure
   .rw[if_neg t];exact Tp.mono (QaY _) Tp.pure)
def Tp.dictSet_new(n:Tp z ch (pyHash (.ref a)) s h { s with toks:=t })
  (b:s.heap.get? d=some o) (hd:o.data=.dict es ep) (p:Nat.ble z.m d=true) (r:es.size+1<=sizeLine)
  (q:∀e∈es,(e.key == .ref a)=false) (hq:Tp z cq (eqIsQuiet 8 (.ref a)) { s with toks:=t } true { s with toks:=t }) (i:∀e∈es,Tp z cq (eqIsQuiet 8 e.key) { s with toks:=t } true { s with toks:=t })
  (j:∀e∈es,Tp z ce (eqBool e.key (.ref a)) { s with toks:=t } false { s with toks:=t }) :
  Tp z (ch+((1+(cq+es.size*cq)+es.size*(ce+3))+4)) (dictSet d (.ref a) v) s () { s with heap:=s.heap.update d (Obj.mapDictKeys (·.push ⟨h,.ref a,v⟩)),toks:=t }:=by
 unfold PySem.dictSet;refine Tp.holding (Tp.bind n ?_);unfold PySem.dictSetHashed;refine Tp.holding (Tp.bind (Tp.dictFind_none (s:={ s with toks:=t }) b hd q hq i j) ?_);dsimp only;refine Tp.mono (show 1+(1+(1+(1+0)))<=4 by omega) ?_;refine Tp.bind Tp.rule ?_;unfold PySem.updateDictKeys;refine Tp.bind (Tp.loadPart (s:={ s with toks:=t }) b) ?_;rw[hd];dsimp only;refine Tp.bind (Tp.updatePart (s:={ s with toks:=t }) (by show(s.heap.get? d).isSome=true;rw[b];rfl) p) ?_;unfold PySem.lookBehind;have f:(s.heap.update d (Obj.mapDictKeys (·.push ⟨h,.ref a,v⟩))).get? d=some (Obj.mapDictKeys (·.push ⟨h,.ref a,v⟩) o):=by
  exact Heap.get?_update_self _ b (Obj.isFreed_of_dict (Obj.data_mapDictKeys hd _))
 refine Tp.bind (Tp.loadPart f) ?_;have l:(Obj.mapDictKeys (·.push ⟨h,.ref a,v⟩) o).data.pastItsLine=none:=by
  obtain⟨c,dd,w,u⟩:=o;dsimp only at hd;subst hd;show Data.pastItsLine (.dict _ _)=none;simp[Data.pastItsLine];omega
 rw[l];exact Tp.pure
theorem Tp.of_goT{α:Type}{n:Nat}{m:Sem α}{a:α}{s s':SharedT}(h:∀K H gd lv pos,∃pos',goT z.p z.w z.m z.a n s ⟨m.wrap K H gd lv,.body z.b z.e,pos,[topFrame z.q]⟩=some (s',⟨K a,.body z.b z.e,pos',[topFrame z.q]⟩)) :
  Tp z n m s.abs a s'.abs:=λK H gd lv pos=>let ⟨pos',e⟩:=h K H gd lv pos;⟨pos',Go.of_goT e⟩
theorem Tp.reduced:Tp z 1 (pyHashByItsType.reduced i) s (reduceHash i) s:=by
 unfold pyHashByItsType.reduced;by_cases a:(decide (-(2:Int)^63<=i)&&decide (i<2^63))=true
 .have e:reduceHash i=if i == -1 then -2 else i:=by unfold reduceHash;rw[if_pos a]
  rw[if_pos a,e];exact Tp.mono (QaY _) Tp.pure
 .rw[if_neg a];unfold reduceHash;rw[if_neg a];exact Tp.bind (k:=0) Tp.rule Tp.pure
def Tp.pyHash_ref(f:Tp z 1 (cRoomFor "hash" [.ref a]) s () s)(h:Tp z 1 (specialOf (.ref a) "__hash__") s (some (.builtin "tuple.__hash__")) s)
  (b:∀act,Tp z n (callSpecialIfBoundUnlessNone? (.ref a) "__hash__" act) s (some (.int x t)) s'):Tp z (n+4) (pyHash (.ref a)) s (reduceHash x) s':=by
 refine Tp.mono (show 1+(1+(1+(n+1)))<=n+4 by omega) ?_;unfold pyHash;unfold pyHashByItsType;refine Tp.bind f (Tp.bind h ?_);show Tp _ _ (if (some (Value.builtin "tuple.__hash__")==some Value.none)=true then _ else _) _ _ _;rw[if_neg (by rw[beq_builtin_none];exact Qbg)];refine Tp.bind h ?_;show Tp _ _ (callSpecialIfBoundUnlessNone? (.ref a) "__hash__" _ >>= _) _ _ _;exact Tp.bind (b _) Tp.reduced
theorem set_set(f g:Obj->Obj):∀(t:BT) (a:Nat),(t.set a f).set a g=t.set a (λo=>g (f o))
 | .nil,_=>rfl
 | .node v l r,a=>by
  rw[BT.set_node v l r a f,BT.set_node v l r a];by_cases h:a=0
  .rw[if_pos h,if_pos h,BT.set_node,if_pos h]
  .rw[if_neg h,if_neg h];by_cases q:a%2=1
   .rw[if_pos q,if_pos q,BT.set_node,if_neg h,if_pos q,set_set f g l]
   .rw[if_neg q,if_neg q,BT.set_node,if_neg h,if_neg q,set_set f g r]
def Tp.storeAll_nil:Tp z 0 (storeAll d []) s PUnit.unit s:=by
 unfold storeAll;rw[List.forIn_nil];exact Tp.pure
def Tp.storeAll_cons(h:Tp z c (dictSet d k v) s () s₁)(h':Tp z c' (storeAll d vs) s₁ PUnit.unit s₂) :
  Tp z (c+c') (storeAll d ((k,v)::vs)) s PUnit.unit s₂:=by
 unfold storeAll at h' ⊢;rw[Qa6];refine Tp.bind (n:=c) (Tp.mono (show c+0<=c by omega) (Tp.bind h Tp.pure)) ?_;exact h'
theorem Tp.subDict(b:pairs.length<=15)
  (h1:Tp z c (evalPairs pairs) { s with heap:=s.heap.push { cls:=.type "dict",data:=.dict #[] } } vs s₁) (h2:Tp z c' (storeAll s.heap.objs.size vs) s₁ PUnit.unit s₂) :
  Tp z (1+(c+c')) (subDict pairs) s s.heap.objs.size s₂:=by
 unfold PySem.subDict;refine Tp.bind Tp.alloc ?_;refine Tp.mono (show(c+c')+0<=c+c' by omega) ?_;refine Tp.bind (a:=()) (Tp.holding ?_) Tp.pure;rw[if_pos b];refine Tp.bind h1 ?_;refine Tp.holding ?_;exact Tp.mono (show c'+0<=c' by omega) (Tp.bind h2 Tp.pure)
theorem Tp.Dict(a:keys.all (·.isSome)=true)(h:keys.length=values.length)(j:keys≠[])(f:keys.length<=15)
  (h1:Tp z c (evalPairs (pairTrees keys values z.e pos)) { s with heap:=s.heap.push { cls:=.type "dict",data:=.dict #[] } } vs s₁) (h2:Tp z c' (storeAll s.heap.objs.size vs) s₁ PUnit.unit s₂) :
  Tp z (1+(1+(c+c'))) (eval (.Dict keys values pos) z.e) s (.ref s.heap.objs.size) s₂:=by
 have b:=pairTrees_length keys values z.e pos a h;have i:pairTrees keys values z.e pos≠[]:=by
  intro he;rw[he]at b;exact j (List.length_eq_zero_iff.mp b.symm)
 rw[arm_eval_Dict,zip_pairTrees keys values z.e pos a h,dictDisplay_pairs _ i (by rw[b];omega)];refine Tp.bind Tp.standAt ?_;exact Tp.mono (show(1+(c+c'))+0<=1+(c+c') by omega) (Tp.bind (Tp.subDict (by rw[b];exact f) h1 h2) Tp.pure)
theorem Tp.Assign(a:Tp z 0 (swapsWithSole targets value pos.line z.e) s false s)(h1:Tp z c (eval value z.e) s v s₁)
  (h2:Tp z c' (swappedStores targets value z.e >>= λx=>assignStores z.e v x ((assignEach targets z.e).map (·.2))) s₁ fl s₂):Tp z (1+(0+(c+c'))) (exec (.Assign targets value pos) z.e) s fl s₂:=by
 rw[arm_exec_Assign];refine Tp.bind Tp.standAt (Tp.bind a ?_);simp only[QaU,Rm];exact Tp.bind h1 h2
def Z63{T:BT}{D n t t':Nat}{X a o:Obj}{f:Obj->Obj}{os:OsState}{life:Life}{gens:Ae GenState}{drawn:Drawn}(i:f X=a)(b:(T.set D (λ_=>X)).get D=some o) :
  ({ (SharedT.mk (T.set D (λ_=>X)) n life gens drawn t os).abs with heap:=(SharedT.mk (T.set D (λ_=>X)) n life gens drawn t os).abs.heap.update D f,toks:=t' }:Ac)=(SharedT.mk (T.set D (λ_=>a)) n life gens drawn t' os).abs:=by
 have e:absHeap (T.set D (λ_=>a)) n life=(absHeap (T.set D (λ_=>X)) n life).update D f:=by
  rw[<- absHeap_set b,set_set,i]
 exact congrArg (λh=>Shared.mk h gens drawn t' os) e.symm
def Tp.to(e:s'=s'')(h:Tp z n m s a s'):Tp z n m s a s'':=e ▸ h
def Z5Q{P:DictEntry->Prop}{es:Ae DictEntry}{x:DictEntry}(h:∀e∈es,P e)(a:P x):∀e∈es.push x,P e:=λe he=>by
 rcases Array.mem_push.mp he with he|rfl
 .exact h e he
 .exact a
def all_nil{P:DictEntry->Prop}:∀e∈(#[]:Ae DictEntry),P e:=λe he=>by simp at he
def dX(es:Ae DictEntry)(ep:Nat):Obj:={ cls:=.type "dict",data:=.dict es ep }
def Tp.dictSetT{T:BT}{D n t t' ep:Nat}{es:Ae DictEntry}{os:OsState}{life:Life}{gens:Ae GenState}{drawn:Drawn}{a:Af}{v:Ad}{h:Int}{ch ce cq:Nat}
  (i:(T.set D (λ_=>dX es ep)).get D=some (dX es ep)) (o:D<n) (r:Nat.ble z.m D=true) (l:es.size+1<=sizeLine)
  (q:Tp z ch (pyHash (.ref a)) (SharedT.mk (T.set D (λ_=>dX es ep)) n life gens drawn t os).abs h (SharedT.mk (T.set D (λ_=>dX es ep)) n life gens drawn t' os).abs)
  (u:∀e∈es,(e.key == .ref a)=false)
  (hq:Tp z cq (eqIsQuiet 8 (.ref a)) (SharedT.mk (T.set D (λ_=>dX es ep)) n life gens drawn t' os).abs true (SharedT.mk (T.set D (λ_=>dX es ep)) n life gens drawn t' os).abs)
  (b:∀e∈es,Tp z cq (eqIsQuiet 8 e.key) (SharedT.mk (T.set D (λ_=>dX es ep)) n life gens drawn t' os).abs true (SharedT.mk (T.set D (λ_=>dX es ep)) n life gens drawn t' os).abs)
  (j:∀e∈es,Tp z ce (eqBool e.key (.ref a)) (SharedT.mk (T.set D (λ_=>dX es ep)) n life gens drawn t' os).abs false (SharedT.mk (T.set D (λ_=>dX es ep)) n life gens drawn t' os).abs) :
  Tp z (ch+((1+(cq+es.size*cq)+es.size*(ce+3))+4)) (dictSet D (.ref a) v) (SharedT.mk (T.set D (λ_=>dX es ep)) n life gens drawn t os).abs ()
   (SharedT.mk (T.set D (λ_=>dX (es.push ⟨h,.ref a,v⟩) (ep+1))) n life gens drawn t' os).abs:=by
 have p:(SharedT.mk (T.set D (λ_=>dX es ep)) n life gens drawn t os).abs.heap.get? D=some (dX es ep):=abs_get o i;exact Tp.to (Z63 (f:=Obj.mapDictKeys (·.push ⟨h,.ref a,v⟩)) rfl i) (Tp.dictSet_new (t:=t') q p rfl r l u hq b j)
def Z4E{n N:Nat}{r:Ac}{st:Stmt}{rest:Ab Stmt}{pos:Pos}(h:Tp z n (exec st z.e) s .next s')
  (k:∀pos',topRun treeTable z.p z.w z.m z.a N s' (restOf rest z.e (.body z.b z.e) pos' [topFrame z.q])=some r):topRun treeTable z.p z.w z.m z.a (n+N) s (restOf (st::rest) z.e (.body z.b z.e) pos [topFrame z.q])=some r:=by
 obtain⟨pos',g⟩:=h (λf=>match f with | .next=>(execs rest z.e).wrap doneF (leaveH z.e) id id|f=>doneF f) (leaveH z.e) id id pos
 have:=g N r (k pos');unfold restOf;rw[execs_cons_wrap];exact this
end FR
set_option maxHeartbeats 0
namespace PySem.W.Fast
def tw9695533401503850939:=0
def tw3051203665839336306:=0
def tw8372983945268833168:=0
def tw14480486595559927218:=0
def tw15079156302702475320:=0
def tw18328543706648329382:=0
def tw10635742365417445312:=0
def tw12202195498785695343:=0
def tw13192388921091968706:=0
def tw5790964243511970250:=0
def tw15093153716026854636:=0
def tw2858620745698358357:=0
def tw243785615752656593:=0
def tw1331254715290520891:=0
def tw2048208300963356379:=0
def tw289563708335987550:=0
def tw17902979728209878346:=0
def tw2510399705288568588:=0
def tw1741879590084290979:=0
def tw5742919551912805227:=0
def tw13844425207119478827:=0
def tw7270562557461370772:=0
def tw13676194919285721319:=0
def tw7761367632103121236:=0
def tw2138684819642465111:=0
def tw4878862962491037650:=0
def tw5333087368590213499:=0
def tw308429748892523723:=0
def tw2975241398088042761:=0
def tw7993143264876500135:=0
def tw13935289446155752861:=0
def tw18425514519186702529:=0
def tw10395808162049860331:=0
def tw1152425515195442402:=0
def tw10003835032675459020:=0
def tw7599272976152229606:=0
def tw12214421428499579310:=0
def tw14182836708104905115:=0
def tw14087823094124511877:=0
def tw1354153126002129757:=0
def tw8570424281913318007:=0
def tw16192438688975967121:=0
def tw12100902332314092111:=0
def tw2482644882873194210:=0
def tw13314535144256832855:=0
def tw16140998649573381473:=0
def tw18118227078792394936:=0
def tw12782972116989976932:=0
def tw13247018227548904204:=0
def tw10812368697604541428:=0
def tw4756935440585311032:=0
def tw6075886903843123097:=0
def tw2932526783427974618:=0
def tw8497091688172325734:=0
def tw1382637908561314824:=0
def tw15098548141931360376:=0
def tw5244317538465999721:=0
def tw16933257977382774793:=0
def tw9790559511848792008:=0
def tw12688696769459671378:=0
def tw5949140787037661013:=0
def tw15688638803002706335:=0
def tw14900861620468946457:=0
def tw14042517818913581503:=0
def tw2364800591690190665:=0
def tw17429606825784804389:=0
def tw1728312849099731343:=0
def tw3325667190407836152:=0
def tw8994862651184673374:=0
def tw11548625985831967172:=0
def tw17635583263032052531:=0
def tw11463736882107734439:=0
def tw4337816194392991176:=0
def tw14635042252949327031:=0
def tw14275769189782326864:=0
def tw7533947261855753660:=0
def tw3362338020510267906:=0
def tw2484899382392147721:=0
def tw15972923636127567149:=0
def tw14444581476522111295:=0
def tw17871301751488844294:=0
def tw16707385635266241821:=0
def tw2767912527576268730:=0
def tw7592103831777073183:=0
def tw2059769124762288422:=0
def tw204575727106367934:=0
def tw8199834721199248683:=0
def tw10716574659251407374:=0
def tw10101891285746795289:=0
def tw14097831986853905501:=0
def tw14324864534983210198:=0
def tw1778121823830450285:=0
def tw758008471934563973:=0
def tw17235475665016451803:=0
def tw1569100960082042912:=0
def tw14566902806209721821:=0
def tw5020434923968138091:=0
def tw1949416070006039497:=0
def tw2157926410236243167:=0
def tw2404714782727361287:=0
def tw4096779947458677624:=0
def tw11563377714207159110:=0
def tw16397240518097290424:=0
def tw4674003078817613616:=0
def tw2194976948157103840:=0
def tw1836977856389797382:=0
def tw10588141143473291030:=0
def tw5215923103439710569:=0
def tw5676665895729400594:=0
def tw18353383481702692829:=0
def tw6422589307526520132:=0
def tw2104091008595007086:=0
def tw12828649458213336425:=0
def tw15433511378131021071:=0
def tw3059130421280766283:=0
def tw10581229196507642579:=0
def tw13927341536703592229:=0
def tw5629431797844699928:=0
def tw3535160359973969823:=0
def tw15544392724489149058:=0
def tw5124347220643880722:=0
def tw18189138542135797926:=0
def tw4197124308733922815:=0
def tw6525766684374183621:=0
def tw5214912398273446548:=0
def tw15661996499658642019:=0
def tw15264116141076701506:=0
def tw13725660676006141636:=0
def tw948740444701212825:=0
def tw594027259090298081:=0
def tw17672632561526015268:=0
def tw3873102051137237923:=0
def tw11159138147389821624:=0
def tw17541390412736680698:=0
def tw11538023670384857439:=0
def tw2982639085848350477:=0
def tw14747853280719715932:=0
def tw2414120655292180463:=0
def tw1665222173530856:=0
def tw17511311415227778395:=0
def tw16528973351965468052:=0
def tw8440914595158818359:=0
def tw4883171573199174225:=0
def tw11198243568989700748:=0
def tw15664104676008140190:=0
def tw12444388724811969175:=0
def tw10368383578631103314:=0
def tw12105263227877110853:=0
def tw11268989126314381723:=0
def tw4861984201077689203:=0
def tw11073029016599121781:=0
def tw357479660273373133:=0
def tw13766165737501380920:=0
def tw14593974846387246087:=0
def tw12741710671940722671:=0
def tw15333906131207069970:=0
def tw2175937695706645007:=0
def tw2091210830085586825:=0
def tw15307077317795520842:=0
def tw8341277069395057511:=0
def tw12715438607757880281:=0
def tw279609826883389670:=0
def tw10410945159873318593:=0
def tw13160463745020158354:=0
def tw3197077021162604813:=0
def tw14238359138657884200:=0
def tw17503793066645861363:=0
def tw17855304597182472959:=0
def tw6536767190780298628:=0
def tw11532256338101799594:=0
def tw2571784909917556654:=0
def tw12868103669291357928:=0
def tw10591160969943678685:=0
def tw6430810373525837632:=0
def tw18346596770055757319:=0
def tw5469486135515610259:=0
def tw11503394419185864699:=0
def tw12319316478373437797:=0
def tw5828233547192493852:=0
def tw5164088694757457714:=0
def tw9119449864931452293:=0
def tw14694424591834217493:=0
def tw5825504082782385526:=0
def tw16836168243550997484:=0
def tw2001611955349539937:=0
def tw14230467076075690797:=0
def tw5211861944142937268:=0
def tw6723804542677768103:=0
def tw1521276332992843873:=0
def tw14752514884812333190:=0
def tw15662892184070539589:=0
def tw11953108784151680299:=0
def tw7198283947733415539:=0
def tw7014987594947072144:=0
def tw8278614951162308655:=0
def tw6074637426821840716:=0
def tw215779146110437637:=0
def tw10786978338279595259:=0
def tw18062471758834856639:=0
def tw10593029315360291095:=0
def tw1793108832872404734:=0
def tw12509545259738421358:=0
def tw1148441128695265516:=0
def tw11907772590940427197:=0
def tw13715441054657641880:=0
def tw1171526092942471759:=0
def tw17972060651990283154:=0
def tw11129499139928941180:=0
def tw5597574842013196885:=0
def tw5042650989977207651:=0
def tw13053621922072318741:=0
def tw444662242149354561:=0
def tw6100920048407316643:=0
def tw6298546715697291373:=0
def tw4088900968564306532:=0
def tw6948151810702158185:=0
def tw16058581913515508511:=0
def tw16205436296270347349:=0
def tw11266123661824192302:=0
def tw18234017694377597982:=0
def tw1528723346822587838:=0
def tw14902054530293219462:=0
def tw18352690205488086038:=0
def tw15583141060919066438:=0
def tw5036172725842206649:=0
def tw10470795959877469968:=0
def tw12316594244155394699:=0
def tw16635338889706277717:=0
def tw3697387212351614401:=0
def tw10498574112063014046:=0
end PySem.W.Fast
section
open PySem PySem.W
def kqA:Aa PySem.Expr->Aa PySem.Expr
 |some (.Tuple (.Constant (.str s) k p::r) c q)=>some (.Tuple (.Constant (.int (Int.ofNat (s.cps.toList.headD 0))) k p::r) c q)
 |x=>x
def kqB:Stmt->Stmt
 | .Assign tg (.Dict ks vs ps) pt=>.Assign tg (.Dict (ks.map kqA) vs ps) pt
 |x=>x
def Zac:Aj:={ PySem.Challenge.pw_stuckwire_k61_desk_gives with main:={ PySem.Challenge.pw_stuckwire_k61_desk_gives.main with body:=PySem.Challenge.pw_stuckwire_k61_desk_gives.main.body.modify 59 kqB } }
open_shared Post for Zac leaving 0
end
set_option maxHeartbeats 0
namespace FR
open PySem PySem.W PySem.Calls PyProof.Rows
abbrev pK:Aj:=PySem.Challenge.pw_stuckwire_k61_desk_gives
abbrev stF:Stmt:=pK.main.body.getD 59 (.Pass ⟨0,0,0,0⟩)
def exF:Ab Ag×Ab (Aa Ag)×Ab Ag×Pos×Pos:=match stF with | .Assign t (.Dict k v p) q=>(t,k,v,p,q)|_=>([],[],[],⟨0,0,0,0⟩,⟨0,0,0,0⟩)
def Z8C:stF=.Assign exF.1 (.Dict exF.2.1 exF.2.2.1 exF.2.2.2.1) exF.2.2.2.2:=by kernel_rfl
def D0:Obj:={ cls:=.type "dict",data:=.dict #[] }
abbrev tp(a:Ae Ad):Obj:={ cls:=.type "tuple",data:=.seq a }
def oF352:=tp #[.str "give" 661,.int 1 662]
def oF353:=tp #[.str "number" 663]
def oF354:=tp #[.str "stuck" 664,.int 3 665]
def oF355:=tp #[.str "number" 666,.str "bit" 667,.str "number" 668]
def oF356:=tp #[.str "leg" 669,.int 4 670]
def oF357:=tp #[.str "number" 671,.str "bit" 672,.str "bit" 673,.str "number" 674]
def oF358:=tp #[.str "faults" 675,.int 0 676]
def oF359:=tp #[]
def oF360:=tp #[.str "idle" 677,.int 0 678]
def oF361:=tp #[]
def oF362:=tp #[.str "tells" 679,.int 2 680]
def oF363:=tp #[.str "number" 681,.str "bit" 682]
def oF364:=tp #[.str "tells" 683,.int 3 684]
def oF365:=tp #[.str "number" 685,.str "bit" 686,.str "bit" 687]
def oF366:=tp #[.str "lean" 688,.int 0 689]
def oF367:=tp #[]
def TD(P:Params):BT:=(Post.tree_370 P).ins 351 D0
def T0(P:Params):BT:=((((((((((((((((TD P).ins 352 oF352).ins 353 oF353).ins 354 oF354).ins 355 oF355).ins 356 oF356).ins 357 oF357).ins 358 oF358).ins 359 oF359).ins 360 oF360).ins 361 oF361).ins 362 oF362).ins 363 oF363).ins 364 oF364).ins 365 oF365).ins 366 oF366).ins 367 oF367
abbrev stT(t:BT)(n toks:Nat)(os:OsState):SharedT:={ tree:=t,n:=n,life:={ },gens:={ toList:=[] },drawn:={ },toks:=toks,os:=os }
def kw:Nat->Str×Int
 |0=>("give",1)
 |1=>("stuck",3)
 |2=>("leg",4)
 |3=>("faults",0)
 |4=>("idle",0)
 |5=>("tells",2)
 |6=>("tells",3)
 |_=>("lean",0)
def hF(P:Params)(i:Nat):Int:=Builtin.Tuple.tupleHashOf [PyData.keyHash P (kw i).1,(kw i).2]
def al8{P:Nat->Prop}(a:P 0)(b:P 1)(c:P 2)(d:P 3)(e:P 4)(f:P 5)(g:P 6)(h:P 7):∀i,i<8->P i
 |0,_=>a|1,_=>b|2,_=>c|3,_=>d|4,_=>e|5,_=>f|6,_=>g|7,_=>h|n+8,q=>absurd q (by omega)
variable (p:Aj)(b:Ab Stmt)(os:OsState)
abbrev GG(w:Ak)(n:Nat)(s:SharedT){α:Type}(m:Sem α)(r:α)(s':SharedT)(pos':Pos->Pos):Prop:=∀(K:α->Sem Fin) (H:Ad->Sem Fin) (gd:Bool->Bool) (lv:Ab Ad->Ab Ad) (pos:Pos),goT p w 11 (some (.ref 6)) n s ⟨m.wrap K H gd lv,.body b Post.env_1,pos,[topFrame ⟨0,0,0,0⟩]⟩=some (s',⟨K r,.body b Post.env_1,pos' pos,[topFrame ⟨0,0,0,0⟩]⟩)
abbrev S0(w:Ak)(F:Obj->Obj)(t:Nat):SharedT:=stT ((T0 w.params).set 351 F) 368 t os
abbrev GT(w:Ak)(n:Nat)(F:Obj->Obj)(t:Nat){α:Type}(m:Sem α)(r:α)(t':Nat):Prop:=GG p b w n (S0 os w F t) m r (S0 os w F t') id
def Z6B(w:Ak):GG p b w 69 (stT (TD w.params) 352 661 os) (evalPairs (pairTrees exF.2.1 exF.2.2.1 Post.env_1 exF.2.2.2.1)) [(.ref 352,.ref 353),(.ref 354,.ref 355),(.ref 356,.ref 357),(.ref 358,.ref 359),(.ref 360,.ref 361),(.ref 362,.ref 363),(.ref 364,.ref 365),(.ref 366,.ref 367)] (S0 os w (λ_=>D0) 690) (λ_=>exF.2.2.2.1):=by intros;intro _ _ _ _ _;kernel_rfl
def Z8K(w:Ak)(F:Obj->Obj)(t:Nat):∀i,i<8->GT p b os w 1 F t (cRoomFor "hash" [.ref (352+2*i)]) () t:=by apply al8<;>(intros;intro _ _ _ _ _;kernel_rfl)
def Z8J(w:Ak)(F:Obj->Obj)(t:Nat):∀i,i<8->GT p b os w 1 F t (specialOf (.ref (352+2*i)) "__hash__") (some (.builtin "tuple.__hash__")) t:=by apply al8<;>(intros;intro _ _ _ _ _;kernel_rfl)
def Z1v(w:Ak)(F:Obj->Obj)(t:Nat):∀i,i<8->GT p b os w 3 F t (eqIsQuiet 8 (.ref (352+2*i))) true t:=by apply al8<;>(intros;intro _ _ _ _ _;kernel_rfl)
def Z8L:∀(w:Ak) (i:Nat),i<8->∀(a:Sem Ad) (F:Obj->Obj) (t:Nat),GT p b os w 20 F t (callSpecialIfBoundUnlessNone? (.ref (352+2*i)) "__hash__" a) (some (.int (hF w.params i) (t+2))) (t+3):=byRow2 "special-get-raises" (λw=>by apply al8<;>(intros;intro _ _ _ _ _;kernel_rfl)) (λw=>by apply al8<;>(intros;intro _ _ _ _ _;kernel_rfl))
def Zb1:∀(w:Ak) (i:Nat),i<8->∀j,j<8->j<i->∀(F:Obj->Obj) (t:Nat),GT p b os w (bif i==6&&j==5 then 20 else 16) F t (eqBool (.ref (352+2*j)) (.ref (352+2*i))) false t:=byRow2 "special-get-raises" (λw=>by apply al8<;>(apply al8<;>(intro h;first|exact absurd h (by decide)|(intros;intro _ _ _ _ _;kernel_rfl)))) (λw=>by apply al8<;>(apply al8<;>(intro h;first|exact absurd h (by decide)|(intros;intro _ _ _ _ _;kernel_rfl))))
def Za1(P:Params)(X:Obj):((T0 P).set 351 (λ_=>X)).get 351=some X:=by kernel_rfl
def TA(P:Params)(X:Obj):BT:=((T0 P).set 351 (λ_=>X)).set 3 (Obj.putName "FORMS" (PyData.keyHash P "FORMS") (.str "FORMS" 714) (.ref 351))
def Z8I(w:Ak):GG p b w 0 (stT (Post.tree_370 w.params) 351 661 os) (swapsWithSole exF.1 (.Dict exF.2.1 exF.2.2.1 exF.2.2.2.1) exF.2.2.2.2.line Post.env_1) false (stT (Post.tree_370 w.params) 351 661 os) id:=by intros;intro _ _ _ _ _;kernel_rfl
def Z8M(w:Ak)(X:Obj):GG p b w 7 (S0 os w (λ_=>X) 714) (swappedStores exF.1 (.Dict exF.2.1 exF.2.2.1 exF.2.2.2.1) Post.env_1 >>= λx=>assignStores Post.env_1 (.ref 351) x ((assignEach exF.1 Post.env_1).map (·.2))) .next (stT (TA w.params X) 368 715 os) (λ_=>⟨230,0,230,5⟩):=by intros;intro _ _ _ _ _;kernel_rfl
variable (p:Aj)(b:Ab Stmt)(os:OsState)(w:Ak)
def GG.tp{p:Aj}{b:Ab Stmt}{w:Ak}{n:Nat}{s s':SharedT}{α:Type}{m:Sem α}{r:α}{g:Pos->Pos}(h:GG p b w n s m r s' g):Tp ⟨p,w,11,some (.ref 6),b,Post.env_1,⟨0,0,0,0⟩⟩ n m s.abs r s'.abs:=Tp.of_goT λK H gd lv pos=>⟨_,h K H gd lv pos⟩
def eF(P:Params)(i:Nat):DictEntry:=⟨reduceHash (hF P i),.ref (352+2*i),.ref (353+2*i)⟩
def sF(P:Params):Nat->Ae DictEntry
 |0=>#[]
 |i+1=>(sF P i).push (eF P i)
theorem J7(P:Params):∀i,(sF P i).size=i
 |0=>rfl
 |i+1=>by show((sF P i).push _).size=_;rw[Array.size_push,J7 P i]
theorem J8{P:Params}{Q:DictEntry->Prop}:∀i,(∀j,j<i->Q (eF P j))->∀e∈sF P i,Q e
 |0,_=>all_nil
 |i+1,h=>Z5Q (J8 i λj hj=>h j (by omega)) (h i (by omega))
abbrev S1(i t:Nat):Ac:=(S0 os w (λ_=>dX (sF w.params i) i) t).abs
def Q7(i:Nat)(hi:i<8):Tp ⟨p,w,11,some (.ref 6),b,Post.env_1,⟨0,0,0,0⟩⟩ (24+((1+(3+i*3)+i*(20+3))+4)) (dictSet 351 (.ref (352+2*i)) (.ref (353+2*i))) (S1 os w i (690+3*i)) () (S1 os w (i+1) (690+3*i+3)):=by
 have h:=Tp.dictSetT (z:=⟨p,w,11,some (.ref 6),b,Post.env_1,⟨0,0,0,0⟩⟩) (T:=T0 w.params) (D:=351) (n:=368) (t:=690+3*i) (t':=690+3*i+3) (ep:=i) (es:=sF w.params i) (os:=os) (life:={ }) (gens:={ toList:=[] }) (drawn:={ }) (a:=352+2*i) (v:=.ref (353+2*i)) (h:=reduceHash (hF w.params i)) (ch:=24) (ce:=20) (cq:=3) (Za1 _ _) (by decide) rfl (by rw[J7];exact QaE (show i+1<=8 by omega) (by decide))
  (Tp.pyHash_ref (n:=20) (Z8K p b os w _ _ i hi).tp (Z8J p b os w _ _ i hi).tp λf=>(Z8L p b os w i hi f _ _).tp)
  (J8 i λj hj=>beq_eq_false_iff_ne.mpr λe=>by have e:352+2*j=352+2*i:=Value.ref.inj e;omega) (Z1v p b os w _ _ i hi).tp (J8 i λj hj=>(Z1v p b os w _ _ j (Nat.lt_trans hj hi)).tp)
  (J8 i λj hj=>Tp.mono (by cases (i==6&&j==5)<;>decide) (Zb1 p b os w i hi j (Nat.lt_trans hj hi) hj _ _).tp)
 rw[J7]at h;exact h
def Z5p:Tp ⟨p,w,11,some (.ref 6),b,Post.env_1,⟨0,0,0,0⟩⟩ 1063 (exec stF Post.env_1) (stT (Post.tree_370 w.params) 351 661 os).abs .next (stT (TA w.params (dX (sF w.params 8) 8)) 368 715 os).abs:=by
 rw[Z8C];refine Tp.Assign (c:=1055) (c':=7) (Z8I p b os w).tp ?_ (Z8M p b os w _).tp;have f:(stT (TD w.params) 352 661 os).abs={ (stT (Post.tree_370 w.params) 351 661 os).abs with heap:=(stT (Post.tree_370 w.params) 351 661 os).abs.heap.push { cls:=.type "dict",data:=.dict #[] } }:=congrArg (λh=>Shared.mk h { toList:=[] } { } 661 os) (absHeap_ins (by kernel_rfl));have a:(stT (Post.tree_370 w.params) 351 661 os).abs.heap.objs.size=351:=absHeap_size _ _ _;have l:exF.2.1.length=8:=by kernel_rfl
 have h:=Tp.Dict (z:=⟨p,w,11,some (.ref 6),b,Post.env_1,⟨0,0,0,0⟩⟩) (s:=(stT (Post.tree_370 w.params) 351 661 os).abs) (keys:=exF.2.1) (values:=exF.2.2.1) (pos:=exF.2.2.2.1) (vs:=[(.ref 352,.ref 353),(.ref 354,.ref 355),(.ref 356,.ref 357),(.ref 358,.ref 359),(.ref 360,.ref 361),(.ref 362,.ref 363),(.ref 364,.ref 365),(.ref 366,.ref 367)]) (c:=69) (c':=984) (s₁:=S1 os w 0 690) (s₂:=S1 os w 8 714) (by kernel_rfl) (by kernel_rfl) (by intro h;rw[h]at l;cases l) (by rw[l];decide) (by rw[<- f];exact(Z6B p b os w).tp) ?_
 .rw[a]at h;exact h
 .rw[a];exact Tp.mono (by decide) (Tp.storeAll_cons (Q7 p b os w 0 (by decide)) (Tp.storeAll_cons (Q7 p b os w 1 (by decide)) (Tp.storeAll_cons (Q7 p b os w 2 (by decide)) (Tp.storeAll_cons (Q7 p b os w 3 (by decide)) (Tp.storeAll_cons (Q7 p b os w 4 (by decide)) (Tp.storeAll_cons (Q7 p b os w 5 (by decide)) (Tp.storeAll_cons (Q7 p b os w 6 (by decide)) (Tp.storeAll_cons (Q7 p b os w 7 (by decide)) (Tp.storeAll_nil)))))))))
def TZ(P:Params)(X:Obj):BT:=(((((((((Post.tree_665 P).set 351 (λ_=>X)).set 352 (λ_=>oF352)).set 354 (λ_=>oF354)).set 356 (λ_=>oF356)).set 358 (λ_=>oF358)).set 360 (λ_=>oF360)).set 362 (λ_=>oF362)).set 364 (λ_=>oF364)).set 366 (λ_=>oF366)
def S7:Ab Stmt:=pK.main.body.drop 60
def Z4e(X:Obj)(pos:Pos):segRunT treeTable p w 11 (some (.ref 6)) 1 1400 (stT (TA w.params X) 368 715 os) (piecesOf S7 Post.env_1 (.body b Post.env_1) pos [topFrame ⟨0,0,0,0⟩])=some (.next,stT (TZ w.params X) 627 1065 os,.body b Post.env_1,⟨518,0,527,15⟩):=by kernel_rfl
local macro_rules | `(tactic| walk_at $s) => do
 let k:=s.getString
 if k != "hZ" && k != "KK" && k != "aK" then Lean.Macro.throwUnsupported
 let run (s:String):Ab Nat:=(s.splitOn " ").flatMap fun t=>match t.splitOn "-" with
  |[a,b]=>(List.range (b.toNat!+1)).drop a.toNat!
  |_=>[t.toNat!]
 let os:=run "10000-10002 638 10004-10010 1 639 3-4 7-60 64-108 112-120 188 122-136 141-152 157-168 173-184 189-235 239-316 320-370 30000 20352 378 20354 380 20356 382 20358 384 20360 386 20362 388 20364 390 20366 392-409 415-468 472-552 556-636 640-665"
 let fr:=run "2-3 22 25-31 34-35 38-41 43-44 46-49 51-52 54-57 59-60 62-64 67-69 71-72 74-76 79-81 83-84 86-88 90-91 93-95 98-100 102-103 105-107 109-110 112-114 121-124 127 134-136 139 146-148 151 158-160 163 170-172 175 182-184 187 189-190 192-194 196-197 199-201 203-204 206-208 210-211 213-215 217-218 220-222 225-227 229-230 232-234 236-237 239-241 243-244 246-248 251-254 257-259 262-264 267-269 271-272 274-276 278-279 281-283 285-286 288-290 293-295 298-300 303-305 308-311 313-314 316-318 320-321 323-325 327-328 330-332 334-335 337-339 341-342 344-346 349-368 370-371 373-375 378-380 383-385 387-388 390-392 394-395 397-399 402-404 406-407 409-410 418 420-421 423-425 427-428 430-436 439 441-442 444-446 449-451 453-454 456-458 460-461 463-465 467-468 470-472 474-475 477-479 482-484 487-489 491-492 494-496 498-499 501-503 506-508 510-511 513-515 518-520 523-525 527-528 530-532 534-535 537-539 541-542 544-546 548-549 551-553 556-558 560-561 563-565 567-568 570-571 584 587-589 592-594 596-597 599-601 603-604 606-608 610-611 613-615 618-620 622-623 625-626"
 let P:=Lean.mkIdent `P
 let ob (n : Nat) (X : Lean.Term) : Lean.MacroM Lean.Term := if n = 30000 then pure X else if n ≥ 20000 then pure (Lean.mkIdent (`FR ++ .mkSimple s!"oF{n - 20000}")) else `($(Lean.mkIdent (if n ≥ 10000 then `PySem.W ++ .mkSimple s!"boot_o_{n - 10000}" else `Post ++ .mkSimple s!"o_{n}")) $P)
 let nl (n : Nat) : Lean.MacroM Lean.Term := `(nat_lit $(Lean.Syntax.mkNumLit (toString n)))
 if k = "hZ" then
  let ts <- os.toArray.mapM (ob · (Lean.mkIdent `X))
  `(tactic| exact ⟨⟨[$ts,*]⟩, { }⟩)
 else if k = "aK" then
  let ts <- fr.toArray.mapM nl
  `(tactic| exact [$ts,*])
 else
  let r <- fr.reverse.foldlM (init := <- `([])) fun r a => do `(($(<- nl a), $(<- ob (os.getD a 0) (<- `($(Lean.mkIdent `FR.XZ) $P)))) :: $r)
  `(tactic| exact $r)
def hZ(P:Params)(X:Obj):Ah:=by walk_at "hZ"
def Zas(P:Params)(X:Obj):absHeap (TZ P X) 627 { }=hZ P X:=by kernel_rfl
def XZ(P:Params):Obj:=dX (sF P 8) 8
abbrev bK:Ab Stmt:=behindTheImports pK
def Z7W:bK=Post.sts_4++(Post.sts_62++(Post.sts_110++(Post.sts_138++(Post.sts_154++(Post.sts_170++(Post.sts_186++(Post.sts_237++(Post.sts_318++([stF]++(S7++[])))))))))):=by kernel_rfl
noncomputable abbrev cK:Code:=.body bK Post.env_1
abbrev q0:Pos:=⟨0,0,0,0⟩
variable (w:Ak)(os:OsState)
abbrev sE:Ac:=(stT (TZ w.params (XZ w.params)) 627 1065 os).abs
abbrev tR(n:Nat)(s:Ac)(t:Thread):Prop:=topRun treeTable pK w 11 (some (.ref 6)) n s t=some (sE w os)
def Z6w:topGo treeTable pK w 11 (some (.ref 6)) 12 ⟨boot_heap w.params,⟨[]⟩,boot_drawn,boot_toks,os⟩ (topStub pK)=some ((stT (Post.tree_4 w.params) 15 187 os).abs,⟨denote treeTable cK,cK,q0,[topFrame q0]⟩):=by kernel_rfl
def Z2x:segRun treeTable pK w 11 (some (.ref 6)) 1 1 (stT (Post.tree_4 w.params) 15 187 os).abs (blockOf bK Post.env_1 cK q0 [topFrame q0])=some (.next,(stT (Post.tree_4 w.params) 15 187 os).abs,cK,q0):=by kernel_rfl
def Z6x:tR w os 2 (sE w os) ⟨doneF .next,cK,⟨518,0,527,15⟩,[topFrame q0]⟩:=by kernel_rfl
def k1(pos:Pos):tR w os (1400+2) (stT (TA w.params (XZ w.params)) 368 715 os).abs (restOf (S7++[]) Post.env_1 cK pos [topFrame q0]):=piece_app (segRun_of (Z4e pK bK os w (XZ w.params) pos)) (piece_nil (Z6x w os))
def k2:tR w os (1063+(1400+2)) (stT (Post.tree_370 w.params) 351 661 os).abs (restOf (stF::(S7++[])) Post.env_1 cK ⟨229,0,229,8⟩ [topFrame q0]):=Z4E (z:=⟨pK,w,11,some (.ref 6),bK,Post.env_1,q0⟩) (Z5p pK bK os w) (k1 w os)
def k3:tR w os (Nat.add 377 (Nat.add 221 (Nat.add 400 (Nat.add 214 (Nat.add 214 (Nat.add 214 (Nat.add 380 (Nat.add 394 (Nat.add 386 (1063+(1400+2))))))))))) (stT (Post.tree_4 w.params) 15 187 os).abs (restOf (Post.sts_4++(Post.sts_62++(Post.sts_110++(Post.sts_138++(Post.sts_154++(Post.sts_170++(Post.sts_186++(Post.sts_237++(Post.sts_318++([stF]++(S7++[]))))))))))) Post.env_1 cK q0 [topFrame q0]):=piece_app (Post._proof_62 w pK bK os) (piece_app (Post._proof_110 w pK bK os) (piece_app (Post._proof_138 w pK bK os) (piece_app (Post._proof_154 w pK bK os) (piece_app (Post._proof_170 w pK bK os) (piece_app (Post._proof_186 w pK bK os) (piece_app (Post._proof_237 w pK bK os) (piece_app (Post._proof_318 w pK bK os) (piece_app (Post._proof_374 w pK bK os) (k2 w os)))))))))
def k4:tR w os (1+Nat.add 377 (Nat.add 221 (Nat.add 400 (Nat.add 214 (Nat.add 214 (Nat.add 214 (Nat.add 380 (Nat.add 394 (Nat.add 386 (1063+(1400+2))))))))))) (stT (Post.tree_4 w.params) 15 187 os).abs ⟨denote treeTable cK,cK,q0,[topFrame q0]⟩:=piece_block (Z2x w os) (by have h:=k3 w os;rw[<- Z7W]at h;exact h)
abbrev MK:Nat:=12+(1+Nat.add 377 (Nat.add 221 (Nat.add 400 (Nat.add 214 (Nat.add 214 (Nat.add 214 (Nat.add 380 (Nat.add 394 (Nat.add 386 (1063+(1400+2)))))))))))
def Z6v:topRun treeTable pK w 11 (some (.ref 6)) MK ⟨boot_heap w.params,⟨[]⟩,boot_drawn,boot_toks,os⟩ (topStub pK)=some ⟨hZ w.params (XZ w.params),⟨[]⟩,{ },1065,os⟩:=(go_top (Z6w w os) (k4 w os)).trans (congrArg some (by show SharedT.abs _=_;unfold SharedT.abs;rw[Zas]))
def KK:Params->Frag:=λP=>by walk_at "KK"
def asK:Ab Af:=by walk_at "aK"
def qK:Aj:=view pK [1,6,7,8,9,10,11,12,13,15,16,17,18,19,20,22,23,24,25,26,27,28,29,30,32,35,36,37,39,40,41,42,43,44,46,47,48,49,50,51,52,53,54,55,56,57,59,60,61,62,63,64,65,66,68,69,70,71,72,73,74,75,76,78,79,80,81,82,83,84,85,86,87,88,89,90,91,92,93,94,95,96,97,98,99]
def looseK:Ab Str:=["bits_for","outs_for","tables","out_tables","answers","NUMBERS_BEHIND","FORMS"]
abbrev rK:=PySem.Challenge.rw_stuckwire_k61_desk_gives.row
abbrev sZ(P:Params)(es:Ae DictEntry)(ep:Nat)(os:OsState):Ac:=⟨hZ P (dX es ep),⟨[]⟩,{ },1065,os⟩
abbrev Z4X:=importedModules pK.main.body
variable (P:Params)(es:Ae DictEntry)(ep:Nat)(os:OsState)
def Z9V(w:Ak):((boot_heap w.params).isNs mainGlobals&&(⟨[]⟩:Ae GenState).size==0,(boot_heap w.params).objs.size,(boot_heap w.params).nsMap mainGlobals "__annotations__")=(true,11,some (.ref 6)):=by kernel_rfl
def lk0:(staticsOk Z4X (boot_heap P) (hZ P (dX es ep))&&namesBound pK (hZ P (dX es ep))&&gensDone (sZ P es ep os)&&laidKept (boot_heap P) (hZ P (dX es ep)))=true:=by kernel_rfl
def lk1:seen ((recsOf qK).map (·.name)) (ownsOf qK) [] { (sZ P es ep os)with gens:=#[] }=expectedOf qK:=by kernel_rfl
def lk2:(sZ P es ep os).heap.bltView=bltViewBooted:=by kernel_rfl
def an{a b:Bool}(h:a=true)(k:b=true):(a&&b)=true:=by rw[h,k];rfl
def lk3:((sZ P es ep os).heap.keysOk (looseW qK looseK) ((recsOf qK).map (·.name)) ((litsOf qK).map (·.1)) ((clssOf qK (looseW qK looseK)).map (·.name))&&(sZ P es ep os).heap.accountedOkI Z4X&&(sZ P es ep os).heap.isNs mainGlobals&&(sZ P es ep os).heap.isNs builtinsNs&&tablesOk qK (sZ P es ep os).heap&&(xlAt qK [] (sZ P es ep os)&&recOk (RowW.records rK.toRowW) (sZ P es ep os))&&(if true then(sZ P es ep os).gens.size==0 else !leftWithCleanup (sZ P es ep os).gens))=true:=(an (an (an (an (an (an (by kernel_rfl) (by kernel_rfl)) (by kernel_rfl)) (by kernel_rfl)) (by kernel_rfl)) (by kernel_rfl)) (by kernel_rfl))
def lk4:tabsOk qK (sZ P es ep os)=true:=(an (an (an (by kernel_rfl) (by kernel_rfl)) (by kernel_rfl)) (by kernel_rfl))
def lk5:pinSeenD qK (drecsOf qK) (sZ P es ep os)=pinGoodD (drecsOf qK):=by kernel_rfl
def lk6:plainSeenE qK (looseW qK looseK) (sZ P es ep os)=plainGoodE qK (looseW qK looseK):=by kernel_rfl
def lk7:plainSeenD qK looseK (sZ P es ep os)=plainGoodD qK looseK:=by kernel_rfl
def lk8:wideSeen qK (sZ P es ep os)=wideGood qK:=by kernel_rfl
def lk9:clsSeenW qK looseK (sZ P es ep os)=clsGoodW qK looseK:=by kernel_rfl
def asK_eq(P:Params):asK=(KK P).map (·.1):=by kernel_rfl
abbrev HK:Hook:=kHook KK asK asK_eq
def lkK(w:Ak):HK.obs (sZ w.params (sF w.params 8) 8 os)=HK.val w:=by kernel_rfl
def opK:opening pK=plainProg pK.main.scope.names:=by kernel_rfl
def feK(s:Ac):fenceModules? pK s=some s:=by kernel_rfl
def lkS:openSeen qK looseK Z4X (λs=>xlAt qK [] s&&recOk (RowW.records rK.toRowW) s) true (sZ P es ep os)=openGood qK looseK:=by
 unfold openSeen openGood;exact looks_pair (lk1 P es ep os) (looks_pair (lk2 P es ep os) (looks_pair (lk3 P es ep os) (looks_pair (lk4 P es ep os) (looks_pair (lk5 P es ep os) (looks_pair (lk6 P es ep os) (looks_pair (lk7 P es ep os) (looks_pair (lk8 P es ep os) (lk9 P es ep os))))))))
def leftK:LeftO pK qK looseK (λs=>xlAt qK [] s&&recOk (RowW.records rK.toRowW) s) (Hook.obs HK) (Hook.val HK) 9048 :=
 LeftO.of_pieces (H₀:=boot_heap) (H₁:=λP=>hZ P (XZ P)) (gs₀:=⟨[]⟩) (gs₁:=⟨[]⟩) (d₀:=boot_drawn) (d₁:={ }) (k₀:=boot_toks) (k₁:=1065) (m₀:=11) (ann:=some (.ref 6)) (M:=MK) (boot_open opK (by decide) feK) Z9V Z6v (by decide) (λw=>funext λos=>looks_pair (lk0 w.params _ 8 os) (looks_pair (lkS w.params _ 8 os) (lkK os w)))
end FR
set_option maxHeartbeats 0
namespace G
open PySem PySem.Spec PyProof.Rows L2 PD
def Saa:eT ["self","ins","rows","outs"] ["self","ins","rows","outs"] (aR kB):=Rn
def Sab:eT ["self"] ["self"] (aR nK):=Rn
example:∃x,x=(PySem.Challenge.rw_stuckwire_k61_desk_gives,FR.KK):=by k_fill;exact⟨_,rfl⟩
structure HY(P:Program)(w:World)(K:Frag)(mg:Str->Option Value)(base:Heap)(C CD CL CE CW yg yh yi:Addr):Prop extends HB FR.KK P w K mg base where
 yj:NoAttr K C "ins"
 yl:NoAttr K C "rows"
 yw:NoAttr K C "outs"
 yf:HCl K "Circuit" C kB "Circuit.__init__"
 ym:NoAttr K CD "circuit"
 yk:HCl K "Desk" CD nK "Desk.__init__"
 yo:∃t,mg "FIGURES" = some (.str "0123456789" t)
 yp:∃t,mg "MOST_FIGURES" = some (.int 9 t)
 yn:∃t,mg "MOST_INS" = some (.int 8 t)
 yq:∃t,mg "MOST_OUTS" = some (.int 16 t)
 zt:Z8s K w.params mg "NUMBERS_BEHIND" [("fix",1),("not",1),("and",2),("or",2),("xor",2)]
 yr:∃t,mg "MOST_ROWS" = some (.int 60 t)
 zu:Z8r K P w mg "FORMS" [([.inr "give",.inl 1],["number"]),([.inr "stuck",.inl 3],["number","bit","number"]),([.inr "leg",.inl 4],["number","bit","bit","number"]),([.inr "faults",.inl 0],[]),([.inr "idle",.inl 0],[]),([.inr "tells",.inl 2],["number","bit"]),([.inr "tells",.inl 3],["number","bit","bit"]),([.inr "lean",.inl 0],[])]
 z9:HMe K "say" CD Z87 "Desk.say"
 yt:nsIn K mainGlobals "NotTold" = some (some (.ref yg))
 yu:nsIn K mainGlobals "TooGreat" = some (some (.ref yi))
 za:nsIn K mainGlobals "StuckError" = some (some (.ref yh))
 zb:PySem.W.kitOne K (.ref CL) (.ref CE)=some false
 zc:PySem.W.kitOne K (.ref CW) (.ref CE)=some false
 zd:PySem.W.kitOne K (.ref CE) (.ref CL)=some false
 ze:PySem.W.kitOne K (.ref CW) (.ref CL)=some false
 zf:PySem.W.kitOne K (.ref CL) (.ref CW)=some false
 zg:PySem.W.kitOne K (.ref CE) (.ref CW)=some false
 zh:PySem.W.kitOne K (.ref CL) (.ref yg)=some false
 zi:PySem.W.kitOne K (.ref CE) (.ref yg)=some false
 zj:PySem.W.kitOne K (.ref CW) (.ref yg)=some false
 zk:PySem.W.kitOne K (.ref CL) (.ref yi)=some false
 zm:PySem.W.kitOne K (.ref CE) (.ref yi)=some false
 zn:PySem.W.kitOne K (.ref CW) (.ref yi)=some false
 yd:HXc K "NoLine" CL yh
 yc:HXc K "NoCircuit" CE yh
 ye:HXc K "NoWire" CW yh
section
variable {P:Aj}{w:Ak}{K:Frag}{mg:Str->Aa Ad}{base:Ah}{C CD CL CE CW yg yh yi:Af}(Y:HY P w K mg base C CD CL CE CW yg yh yi)
include Y
def mI:mg "ValueError" = none:=Y.z (by k_is)
def Z9E:mg "all" = none:=Y.z (by k_is)
def Z1e:mg "int" = none:=Y.z (by k_is)
def bM:mg "isinstance" = none:=Y.z (by k_is)
def dG:mg "len" = none:=Y.z (by k_is)
def Z00:mg "list" = none:=Y.z (by k_is)
def Z84:mg "max" = none:=Y.z (by k_is)
def Z9D:mg "min" = none:=Y.z (by k_is)
def gE:mg "range" = none:=Y.z (by k_is)
def nH:mg "str" = none:=Y.z (by k_is)
def vR:mg "tuple" = none:=Y.z (by k_is)
def Z83:mg "zip" = none:=Y.z (by k_is)
def qE:F4 P w K mg base "Circuit" C 1 3 (fR C):=by
 refine Y.yf.m Y.x (ps:=["self","ins","rows","outs"]) λfA fd F=>?_;have B:=Saa.nd;refine F.raw Saa (λvs H Q E h=>Z1o h) λcdv A outer s H vs Q E hr hsp=>?_;obtain⟨x,dx,H0,us,ds,d,fp,rfl,n,f,l,rfl,h1,h2,h3,q⟩:=hsp;obtain⟨F,hF⟩:=K1 h2;have t:=h2.length
 match ds,us,h1,t,hF,h3 with
 |[i,r,o],[u1,u2,u3],_,_,hF,h3 =>
  unfold fR at h3;simp only at h3;split at h3
  .rename_i a b c p y u;cases h3;refine⟨_,kG (tG (pv 0) (show QE _ true [] _ _ from(QE.flat (aB 1))) rfl) (kG (tG (pv 0) (show QE _ true [] _ _ from(fM (fr:=[]) rfl (by rfl) (eM (aB 2)) (show List.Nodup (["row"]:Ab Str) from by decide +kernel) (by rfl) (λ_ _ _ _ _ _=>dP) (λ_ _ _ _ _ _=>(qp (xF (by rfl) (vR Y) (aB 0)))))) rfl) (oV (tG (pv 0) (show QE _ true [] _ _ from(qp (L6 (by rfl) (Z00 Y) (aB 3)))) rfl))),?_⟩
   refine Zam (F:=λi=>F (i-1)) (us:=[u1,u2,u3]) (ds:=[i,r,o]) (fp:=fp) n f l (λj ow d' e=>?_) rfl p y u (Y.yf.cl) Y.yj Y.yl Y.yw (by decide +kernel) (by decide +kernel) (by decide +kernel) q
   match j,e with
   |1,e=>cases e;exact(let ⟨v,a1,a2⟩:=hF 0 i rfl;⟨v,by cases a1;rfl,a2⟩)
   |2,e=>cases e;exact(let ⟨v,a1,a2⟩:=hF 1 r rfl;⟨v,by cases a1;rfl,a2⟩)
   |3,e=>cases e;exact(let ⟨v,a1,a2⟩:=hF 2 o rfl;⟨v,by cases a1;rfl,a2⟩)
   |0,e=>cases e
   |j+4,e=>cases e
  .cases h3
def Z7s:F4 P w K mg base "Desk" CD 3 0 (xW C CD):=by
 refine Y.yk.m Y.x (ps:=["self"]) λfA fd F=>?_;have o:=Sab.nd;refine F.raw Sab (λvs H Q E h=>Z1o h) λcdv A outer s H vs Q E hr hsp=>?_;obtain⟨x,dx,H0,us,ds,d,fp,rfl,i,b,f,rfl,h1,h2,h3,q⟩:=hsp;obtain rfl:=Qbd h1;have n:=h2.length;obtain rfl:=Qbd n;unfold xW at h3;simp only at h3;split at h3
 .rename_i a l;cases h3;exact⟨_,oV (tG (pv 0) (show QE _ true [] _ _ from(Z8h (qE Y) (hr.mono (by decide)) (.cons (.cons (.cons NArgs.nil))) (aC (QE.weak (qp aE)) (aC (QE.weak (bU (aC (fW (aC (qp aO) (aC (qp aE) aV))) aV))) (aC (QE.weak (bU (aC (qp aE) aV))) (Qn [])))))) rfl),Zan (F:=λ_=>[]) (env:=[none]) i b f (λj ow d' e=>by match j,e with|0,e=>cases e|j+1,e=>cases e) rfl l (Y.yk.cl) Y.ym q⟩
 .cases h3
def Z21:bL P w K mg base "_law_own" [] 1 2 (rQ C):=Y.c Z6q ["_law_drawn_here","_law_wire"] λnd hr=>(aH (cI (QW.qt (xB (rD (aB 1) (aQ (aB 0) (qp aE))) (qC (bZ (bI hr) (aQ (aQ (aQ (aB 0) (qp aE)) (qp (aY eE (aB 1) (aQ (aB 0) (qp aE))))) (qp aE)) (qp aO))))) (aG (aS (bU aV))) bF)
   (aG (aS (qp (L6 (by rfl) (Z00 Y) (qp (cY (aQ (aQ (aB 0) (qp aE)) (qp (aY eE (aB 1) (aQ (aB 0) (qp aE))))) (cV (qp aE)) dQ)))))))
def P1:bL P w K mg base "_law_fault_by" [] 2 2 (jV C):=Y.c J2 ["_law_drawn_here","_law_number","_law_all_wires","_law_wire","_law_own_here","_law_leg_here"] λnd hr=>(aH (Qs 2 (qp (aY dJ (aQ (aB 0) (qp aE)) (qp (cM (by rfl) (dG Y) (aQ (aB 0) (qp aE)))))))
   (aH (Qs 3 (qp (aM bX (aB 1) (aB 2))))
   (aH (cI (bZ (bI hr) (qp (aM bX (qp (aM cE (aB 1) (qp aE))) (qp aE))) (qp aE)) (aG (Qs 3 (qp (aY dJ (aB 2) (qp (aM dW (qp (aM bX (qp (aM cE (aB 1) (qp aE))) (qp aE))) (qp (aM L9 (qp aE) (qp aE))))))))) bF)
   (aH (cI (bZ (bI hr) (qp (aM bX (qp (aM cE (aB 1) (qp aE))) (qp aE))) (qp aE)) (aG (aS (fW (aC (qp aO) (aC (QE.flat (aB 3)) (aC (qp (aM bX (qp (aM cE (aB 1) (qp aE))) (qp aE))) aV)))))) bF)
   (aH (Qs 4 (bU (aC (qp aE) aV)))
   (aH (cI (rD (aB 3) (aB 2)) (aG (sY 4 4 nd rfl (Or.inl rfl) (Qc (Z21 Y) (aC (Qv 0) (aC (Qv 3) (Qn [0,3])))))) bF)
   (aH (Qs 5 (qp (aM bX (qp (aM cE (aB 1) (qp aE))) (qp (cM (by rfl) (dG Y) (aB 4))))))
   (aG (aS (fW (aC (qp aO) (aC (QE.flat (aB 3)) (aC (QE.flat (aB 5)) (aC (qp (aM bX (qp (aM cE (aB 1) (qp aE))) (qp aE))) aV))))))))))))))
def Z3m:bL P w K mg base "_law_least" [] 1 1 (tO C):=Y.c Z2r ["_law_mask","_law_given"] λnd hr=>(aH (iB rfl PassesOwn.never (eN (rs:=[]) (by rfl) (gE Y) (aC (QE.weak (qp (Z1E (aB 0)))) (Qn []))) (Qg 1) (aG (cI (bZ (bI hr) (qp (aM bX (qp (aM cE (aB 0) (qp (aM dU (qp aE) (aB 1))))) (qp aE))) (qp aE)) (aG (aS (qp (lD (by rfl) (nH Y) (aB 1))))) bF)))
   (aG (aS (qp aO))))
def Z22:bL P w K mg base "_law_leg" [] 1 6 (wB C):=Y.c Z6r ["_law_seen","_law_row","_law_leg_here","_law_fault","_law_wire","_law_most"] λnd hr=>(aH (cI (QW.qt (jF (vU (aB 3)) (iL (bZ (bI hr) (qp (B3 (aB 3) dQ (cV (qp aE)))) (fW (aC (QE.weak (qp aO)) (aC (Qv 4) (aC (Qv 2) (Qn [4,2]))))))))) (aG (aS (qp (aM dW (aB 5) (aQ (aB 3) (qp aE)))))) bF)
   (aG (aS (QE.flat (aQ (aB 0) (aQ (aB 1) (qp (aY dJ (aB 2) (qp aE)))))))))
def zT:bL P w K mg base "_law_row_table" [] 2 5 (eZ C):=Y.c zK ["_law_seen","_law_row","_law_fault","_law_wire","_law_most","_law_one","_law_two"] λnd hr=>(aH (cI (bZ (bI hr) (aQ (aB 1) (qp aE)) (qp aO)) (aG (aS (qp (aM dW (aB 4) (aQ (aB 1) (qp aE)))))) bF)
   (aH (Qs 5 (Qc (Z22 Y) (aC (Qv 0) (aC (Qv 1) (aC (QE.weak (qp aE)) (aC (Qv 2) (aC (Qv 3) (aC (Qv 4) (Qn [0,1,2,3,4])))))))))
   (aH (cI (bZ (bI hr) (aQ (aB 1) (qp aE)) (qp aO)) (aG (aS (qp (aY eE (aB 4) (aB 5))))) bF)
   (aH (Qs 6 (Qc (Z22 Y) (aC (Qv 0) (aC (Qv 1) (aC (QE.weak (qp aE)) (aC (Qv 2) (aC (Qv 3) (aC (Qv 4) (Qn [0,1,2,3,4])))))))))
   (aH (cI (bZ (bI hr) (aQ (aB 1) (qp aE)) (qp aO)) (aG (aS (qp (aY tI (aB 5) (aB 6))))) bF)
   (aH (cI (bZ (bI hr) (aQ (aB 1) (qp aE)) (qp aO)) (aG (aS (qp (aY xL (aB 5) (aB 6))))) bF)
   (aG (aS (qp (aY eE (qp (aY xL (aB 5) (aB 6))) (qp (aY tI (aB 5) (aB 6)))))))))))))
def Z3l:bL P w K mg base "_law_wires" [] 3 2 (tN C):=Y.c Z2o ["_law_drawn_here","_law_fault","_law_ins","_law_rows_here","_law_outs_here","_law_inputs","_law_most","_law_seen","_law_wire"] λnd hr=>(aH (Z6L (aB 0) (Z0r (is:=[2,3,4,5]) rfl (iZ (gH (i:=2) nd rfl (Or.inl rfl)) (iZ (gH (i:=3) nd rfl (Or.inl rfl)) (iZ (gH (i:=4) nd rfl (Or.inl rfl)) (iZ (gH (i:=5) nd rfl (Or.inl rfl)) L8)))) rfl))
   (aH (Qs 6 (qp (aY eE (qp (aM dU (qp aE) (qp (aM dU (qp aE) (aB 2))))) (qp aE))))
   (aH (Qs 7 (bU aV))
   (aH (iB rfl PassesOwn.never (eN (rs:=[]) (by rfl) (gE Y) (aC (QE.weak (qp (aY dJ (aB 2) (qp (cM (by rfl) (dG Y) (aB 3)))))) (Qn []))) (Qg 8) (aG (cI (QW.qt (jF (vU (aB 1)) (iL (bZ (bI hr) (qp (B3 (aB 1) dQ (cV (qp aE)))) (fW (aC (QE.weak (qp aO)) (aC (Qv 8) (Qn [8])))))))) (aG (gX 7 (qp (aM dW (aB 6) (aQ (aB 1) (qp aE)))))) (aG (cI (rD (aB 8) (aB 2)) (aG (gX 7 (QE.flat (aQ (aB 5) (aB 8))))) (aG (gX 7 (Qc (zT Y) (aC (Qv 7) (aC (QE.more (aQ (aB 3) (qp (aY eE (aB 8) (aB 2)))) (by simp)) (aC (Qv 1) (aC (Qv 8) (aC (Qv 6) (Qn [7,3,1,8,6]))))))))))))))
   (aG (jS (i:=7)))))))
def kW:bL P w K mg base "_law_out_tables" [] 4 2 (fK C):=Y.c wT ["_law_drawn_here","_law_fault","_law_seen"] λnd hr=>(aH (Qs 2 (Qc (Z3l Y) (aC (Qv 0) (aC (Qv 1) (Qn [0,1])))))
   (aG (aS (fM (fr:=[2]) rfl (by rfl) (eM (aQ (aB 0) (qp aE))) (show List.Nodup (["_law_wire","_law_seen"]:Ab Str) from by decide +kernel) (by rfl) (λ_ _ _ _ _ _=>dP) (λ_ _ _ _ _ _=>(QE.flat (aQ (aB 1) (aB 0))))))))
def vE:bL P w K mg base "leg_wires" [] 1 1 (eQ C):=Y.c R4 ["row"] λnd hr=>(aH (cI (bZ (bI hr) (aQ (aB 0) (qp aE)) (qp aO)) (aG (aS (bU aV))) bF)
   (aG (aS (qp (L6 (by rfl) (Z00 Y) (qp (cY (aB 0) (cV (qp aE)) dQ)))))))
def O9:bL P w K mg base "sources_of" [] 2 2 (jU C):=Y.c G5 ["circuit","wire"] λnd hr=>(aH (cI (rD (aB 1) (gL (Y.yf.cl) Y.yj (aB 0))) (aG (aS (bU aV))) bF)
   (aG (aS (Qc (vE Y) (aC (QE.more (aQ (gL (Y.yf.cl) Y.yl (aB 0)) (qp (aY eE (aB 1) (gL (Y.yf.cl) Y.yj (aB 0))))) (by simp)) (Qn [0]))))))
def jX:dM P w K mg base "hold_fault" [] 3 2 (dZ C CW):=Y.e J4 ["circuit","fault"] λnd hr=>(aT (Z1y (cI (K5 (aB 1)) (aG Z6N) bF))
   (aT (eD (U0 (aQ (aB 1) (qp aE)) (qp (aY dJ (gL (Y.yf.cl) Y.yj (aB 0)) (qp (cM (by rfl) (dG Y) (gL (Y.yf.cl) Y.yl (aB 0))))))) (bV (cQ (Y.ye.2.1 base Y.b) (by rfl) (Y.val Y.ye.1))) cL)
   (bV (eD (QW.qt (jF (bZ (bI hr) (aQ (aB 1) (qp aE)) (qp aO)) (iL (U0 (aQ (aB 1) (qp aE)) (qp (cM (by rfl) (dG Y) (Qc (O9 Y) (aC (Qv 0) (aC (Ro (aQ (aB 1) (qp aE))) (Qn [0,1])))))))))) (bV (cQ (Y.ye.2.1 base Y.b) (by rfl) (Y.val Y.ye.1))) cL))))
def zS:bL P w K mg base "least_given" [] 1 1 (iP C):=Y.c zJ ["told"] λnd hr=>(aH (cI (bZ (bI hr) (aB 0) (qp aE)) (aG (aS (qp nO))) bF)
   (aG (aS (qp (aY eE (qp (Z1E (qp (aY tI (aB 0) (qp (Z6S (aB 0))))))) (qp aE))))))
def Y6:bL P w K mg base "differing" [] 1 2 (nV C):=Y.c R7 ["one_tables","other_tables","found","one","other"] λnd hr=>(aH (Qs 2 (qp aE))
   (aH (iB rfl PassesOwn.never (Z8f (t:=false) (rs:=[0,1]) (by rfl) (Z83 Y) (aC (Qv 0) (aC (Qv 1) (Qn [0,1])))) (Z0r (is:=[3,4]) rfl (iZ (gH (i:=3) nd rfl (Or.inl rfl)) (iZ (gH (i:=4) nd rfl (Or.inl rfl)) L8)) rfl) (aG (Qs 2 (qp (aY xL (aB 2) (qp (aY Z0y (aB 3) (aB 4))))))))
   (aG (aS (QE.flat (aB 2))))))
def E5:bL P w K mg base "at_outs" [] 1 2 (pD C):=Y.c Z2w ["circuit","values"] λnd hr=>(aG (aS (fM (fr:=[1]) rfl (by rfl) (eM (gL (Y.yf.cl) Y.yw (aB 0))) (show List.Nodup (["out","values"]:Ab Str) from by decide +kernel) (by rfl) (λ_ _ _ _ _ _=>dP) (λ_ _ _ _ _ _=>(QE.flat (aQ (aB 1) (aB 0)))))))
def P2:bL P w K mg base "gate_value" [] 1 3 (eS C):=Y.c J5 ["row","legs","ones","kind"] λnd hr=>(aH (Qs 3 (QE.flat (aQ (aB 0) (qp aE))))
   (aH (cI (bZ (bI hr) (aB 3) (qp aO)) (aG (aS (qp (aM dW (aB 2) (aQ (aB 0) (qp aE)))))) bF)
   (aH (cI (bZ (bI hr) (aB 3) (qp aO)) (aG (aS (qp (aY Z0y (aB 2) (aQ (aB 1) (qp aE)))))) bF)
   (aH (cI (bZ (bI hr) (aB 3) (qp aO)) (aG (aS (qp (aY tI (aQ (aB 1) (qp aE)) (aQ (aB 1) (qp aE)))))) bF)
   (aH (cI (bZ (bI hr) (aB 3) (qp aO)) (aG (aS (qp (aY xL (aQ (aB 1) (qp aE)) (aQ (aB 1) (qp aE)))))) bF)
   (aG (aS (qp (aY Z0y (aQ (aB 1) (qp aE)) (aQ (aB 1) (qp aE)))))))))))
def P0:bL P w K mg base "leg_values" [] 2 5 (dY C):=Y.c G9 ["row","wire","values","ones","fault","legs"] λnd hr=>(aH (kF (i:=5) (fr:=[2]) rfl nd rfl (Or.inl rfl) (by rfl) (eM (m1:=true) (rs:=[]) (Qc (vE Y) (aC (Qv 0) (Qn [0])))) (show List.Nodup (["source","values"]:Ab Str) from by decide +kernel) (by rfl) (λ_ _ _ _ _ _=>dP) (λ_ _ _ _ _ _=>(QE.flat (aQ (aB 1) (aB 0)))))
   (aH (cI (QW.qt (jF (vU (aB 4)) (jF (bZ (bI hr) (aQ (aB 4) (qp aE)) (qp aO)) (iL (bZ (bI hr) (aQ (aB 4) (qp aE)) (aB 1)))))) (aG (Z1z 5 (aQ (aB 4) (qp aE)) (qp (aM dW (aB 3) (aQ (aB 4) (qp aE)))))) bF)
   (aG (jS (i:=5)))))
def E2:bL P w K mg base "on_wire" [] 1 4 (fQ C):=Y.c Z2n ["value","wire","ones","fault"] λnd hr=>(aH (cI (QW.qt (jF (vU (aB 3)) (jF (bZ (bI hr) (aQ (aB 3) (qp aE)) (qp aO)) (iL (bZ (bI hr) (aQ (aB 3) (qp aE)) (aB 1)))))) (aG (aS (qp (aM dW (aB 2) (aQ (aB 3) (qp aE)))))) bF)
   (aG (aS (QE.flat (aB 0)))))
def Z23:bL P w K mg base "borne" [] 3 4 (wC C):=Y.c Z6t ["circuit","starts","ones","fault","values","start","row","wire","legs"] λnd hr=>(aH (Qs 4 (bU aV))
   (aH (iB rfl PassesOwn.never (eM (aB 1)) (Qg 5) (aG (gX 4 (Qc (E2 Y) (aC (Qv 5) (aC (QE.weak (qp (cM (by rfl) (dG Y) (aB 4)))) (aC (Qv 2) (aC (Qv 3) (Qn [5,2,3])))))))))
   (aH (iB rfl PassesOwn.never (eM (gL (Y.yf.cl) Y.yl (aB 0))) (Qg 6) (aH (Qs 7 (qp (cM (by rfl) (dG Y) (aB 4))))
   (aH (Qs 8 (Qc (P0 Y) (aC (Qv 6) (aC (Qv 7) (aC (Qv 4) (aC (Qv 2) (aC (Qv 3) (Qn [6,7,4,2,3]))))))))
   (aG (gX 4 (Qc (E2 Y) (aC (QE.weak (Qc (P2 Y) (aC (Qv 6) (aC (Qv 8) (aC (Qv 2) (Qn [6,8,2])))))) (aC (Qv 7) (aC (Qv 2) (aC (Qv 3) (Qn [7,2,3])))))))))))
   (aG (jS (i:=4))))))
def sG:bL P w K mg base "full_table" [] 1 1 (hG C):=Y.c J6 ["ins"] λnd hr=>(aG (aS (qp (aY eE (qp (aM dU (qp aE) (qp (aM dU (qp aE) (aB 0))))) (qp aE)))))
def yT:bL P w K mg base "input_tables" [] 2 1 (kN C):=Y.c wU ["ins","found","k","width"] λnd hr=>(aH (Qs 1 (bU aV))
   (aH (iB rfl PassesOwn.never (eN (rs:=[]) (by rfl) (gE Y) (aC (Qv 0) (Qn [0]))) (Qg 2) (aH (Qs 3 (qp (aM dU (qp aE) (aB 2))))
   (aH (kF (i:=1) (fr:=[3]) rfl nd rfl (Or.inl rfl) (by rfl) (eM (aB 1)) (show List.Nodup (["table","width"]:Ab Str) from by decide +kernel) (by rfl) (λ_ _ _ _ _ _=>dP) (λ_ _ _ _ _ _=>(qp (aY xL (aB 0) (qp (aM dU (aB 0) (aB 1)))))))
   (aG (gX 1 (qp (aM dU (Qc (sG Y) (aC (Qv 2) (Qn [2]))) (aB 3))))))))
   (aG (jS (i:=1)))))
def Z5B:bL P w K mg base "tables" [] 4 2 (rP C)/\bL P w K mg base "tables" [.non] 4 2 (rP C):=Y.d Z44 ["circuit","fault"] λnd hr=>(aG (aS (Qc (Z23 Y) (aC (Qv 0) (aC (QE.weak (Qc (yT Y) (aC (Ro (gL (Y.yf.cl) Y.yj (aB 0))) (Qn [0])))) (aC (QE.weak (Qc (sG Y) (aC (Ro (gL (Y.yf.cl) Y.yj (aB 0))) (Qn [0])))) (aC (Qv 1) (Qn [0,1]))))))))
def sC:bL P w K mg base "out_tables" [] 5 2 (fN C)/\bL P w K mg base "out_tables" [.non] 5 2 (fN C):=Y.d G8 ["circuit","fault"] λnd hr=>(aG (aS (Qc (E5 Y) (aC (Qv 0) (aC (QE.weak (Qc (Z5B Y).1 (aC (Qv 0) (aC (Qv 1) (Qn [0,1]))))) (Qn [0]))))))
def Z15:bL P w K mg base "tellings" [] 6 2 (kK C):=Y.c Z0e ["circuit","faults","good"] λnd hr=>(aH (Qs 2 (Qc (sC Y).2 (aC (Qv 0) (Qn [0]))))
   (aG (aS (fM (fr:=[2,0]) rfl (by rfl) (eM (aB 1)) (show List.Nodup (["fault","good","circuit"]:Ab Str) from by decide +kernel) (by rfl) (λ_ _ _ _ _ _=>dP) (λ_ _ _ _ _ _=>(Qc (Y6 Y) (aC (Qv 1) (aC (QE.weak (Qc (sC Y).1 (aC (Qv 2) (aC (Qv 0) (Qn [2,0]))))) (Qn [1])))))))))
def Z3k:bL P w K mg base "telling" [] 7 2 (tM C):=Y.c Z2m ["circuit","fault"] λnd hr=>(aG (aS (QE.flat (aQ (QE.weak (rs:=[]) (Qc (Z15 Y) (aC (Qv 0) (aC (QE.weak (bU (aC (QE.flat (aB 1)) aV))) (Qn [0]))))) (qp aE)))))
def vQ:bL P w K mg base "least_telling" [] 8 2 (jK C):=Y.c vI ["circuit","fault"] λnd hr=>(aG (aS (Qc (zS Y) (aC (QE.weak (Qc (Z3k Y) (aC (Qv 0) (aC (Qv 1) (Qn [0,1]))))) (Qn [])))))
def pX:dM P w K mg base "least_shown" [] 9 2 (gC C CW):=Y.e zI ["circuit","fault","given"] λnd hr=>(aT (xD (dR (jX Y) (hr.mono (by decide)) (.cons (.cons NArgs.nil)) rfl (aC (Qv 0) (aC (Qv 1) (Qn [0,1])))) (dS (pre:=fD) (jX Y) (hr.mono (by decide)) (.cons (.cons NArgs.nil)) rfl (aC (Qv 0) (aC (Qv 1) (Qn [0,1])))))
   (eU (aH (Qs 2 (Qc (vQ Y) (aC (Qv 0) (aC (Qv 1) (Qn [0,1])))))
   (aG (aS (xG (K5 (aB 2)) (qp aO) (qp (lD (by rfl) (nH Y) (aB 2)))))))))
def sD:dM P w K mg base "hold_given" [] 1 2 (gZ C CW):=Y.e J3 ["circuit","given"] λnd hr=>(bV (eD (xC (bI hr) (qp (aM Z4L (aB 1) (gL (Y.yf.cl) Y.yj (aB 0)))) (qp aE)) (bV (cQ (Y.ye.2.1 base Y.b) (by rfl) (Y.val Y.ye.1))) cL))
def Z17:bL P w K mg base "bits_for" [] 4 3 (kO C)/\bL P w K mg base "bits_for" [.non] 4 3 (kO C):=Y.d Z0k ["circuit","given","fault","starts"] λnd hr=>(aH (kF (i:=3) (fr:=[1]) rfl nd rfl (Or.inl rfl) (by rfl) (eN (rs:=[]) (by rfl) (gE Y) (aC (Ro (gL (Y.yf.cl) Y.yj (aB 0))) (Qn [0]))) (show List.Nodup (["k","given"]:Ab Str) from by decide +kernel) (by rfl) (λ_ _ _ _ _ _=>dP) (λ_ _ _ _ _ _=>(qp (aY tI (qp (aM Z4L (aB 1) (aB 0))) (qp aE)))))
   (aG (aS (Qc (Z23 Y) (aC (Qv 0) (aC (Qv 3) (aC (QE.weak (qp aE)) (aC (Qv 2) (Qn [0,3,2])))))))))
def Z16:bL P w K mg base "outs_for" [] 5 3 (kM C)/\bL P w K mg base "outs_for" [.non] 5 3 (kM C):=Y.d Z0h ["circuit","given","fault"] λnd hr=>(aG (aS (Qc (E5 Y) (aC (Qv 0) (aC (QE.weak (Qc (Z17 Y).1 (aC (Qv 0) (aC (Qv 1) (aC (Qv 2) (Qn [0,1,2])))))) (Qn [0]))))))
def sB:dM P w K mg base "outs_shown" [] 6 3 (gY C CW):=Y.e G7 ["circuit","fault","given"] λnd hr=>(aT (xD (dR (jX Y) (hr.mono (by decide)) (.cons (.cons NArgs.nil)) rfl (aC (Qv 0) (aC (Qv 1) (Qn [0,1])))) (dS (pre:=fD) (jX Y) (hr.mono (by decide)) (.cons (.cons NArgs.nil)) rfl (aC (Qv 0) (aC (Qv 1) (Qn [0,1])))))
   (aT (xD (dR (sD Y) (hr.mono (by decide)) (.cons (.cons NArgs.nil)) rfl (aC (Qv 0) (aC (Qv 2) (Qn [0,2])))) (dS (pre:=fD) (sD Y) (hr.mono (by decide)) (.cons (.cons NArgs.nil)) rfl (aC (Qv 0) (aC (Qv 2) (Qn [0,2])))))
   (eU (aG (aS (qp (oU (qp aO) (fM (fr:=[]) rfl (by rfl) (eM (m1:=true) (rs:=[]) (Qc (Z16 Y).1 (aC (Qv 0) (aC (Qv 2) (aC (Qv 1) (Qn [0,2,1])))))) (show List.Nodup (["bit"]:Ab Str) from by decide +kernel) (by rfl) (λ_ _ _ _ _ _=>dP) (λ_ _ _ _ _ _=>(qp (lD (by rfl) (nH Y) (aB 0))))))))))))
def Y7:dM P w K mg base "answer" [] 10 2 (jB C CW):=Y.e Z4c ["circuit","asked"] λnd hr=>(aT (eD (bZ (bI hr) (aQ (aB 1) (qp aE)) (qp aO)) (bV (jG (aS (dR (sB Y) (hr.mono (by decide)) (.cons (.cons (.cons NArgs.nil))) rfl (aC (Qv 0) (aC (Ro (aQ (aB 1) (qp aE))) (aC (Ro (aQ (aB 1) (qp aE))) (Qn [0,1])))))) (jH (dS (pre:=fD) (sB Y) (hr.mono (by decide)) (.cons (.cons (.cons NArgs.nil))) rfl (aC (Qv 0) (aC (Ro (aQ (aB 1) (qp aE))) (aC (Ro (aQ (aB 1) (qp aE))) (Qn [0,1])))))) (λ_ _ _ _ h=>h))) cL)
   (aT (eD (bZ (bI hr) (aQ (aB 1) (qp aE)) (qp aO)) (bV (jG (aS (dR (pX Y) (hr.mono (by decide)) (.cons (.cons NArgs.nil)) rfl (aC (Qv 0) (aC (Ro (aQ (aB 1) (qp aE))) (Qn [0,1]))))) (jH (dS (pre:=fD) (pX Y) (hr.mono (by decide)) (.cons (.cons NArgs.nil)) rfl (aC (Qv 0) (aC (Ro (aQ (aB 1) (qp aE))) (Qn [0,1]))))) (λ_ _ _ _ h=>h))) cL)
   (aT (eD (bZ (bI hr) (aQ (aB 1) (qp aE)) (qp aO)) (eU (aG nN)) cL)
   (eU (aH (cI (bZ (bI hr) (aQ (aB 1) (qp aE)) (qp aO)) (aG nN) bF)
   (aG nN))))))
def vF:bL P w K mg base "is_number" [] 1 1 (gR C):=let ⟨_,yo⟩:=Y.yo;let ⟨_,yp⟩:=Y.yp;Y.c R6 ["word"] λnd hr=>(aH (cI (QW.qt (xB (bZ (bI hr) (aB 0) (qp aO)) (qC (T9 (qp (cM (by rfl) (dG Y) (aB 0))) (qp (rF (by rfl) yp)))))) (aG (aS (qp uS))) bF)
   (aH (cI (QW.qt (jF (bZ (bI hr) (aQ (aB 0) (qp aE)) (qp aO)) (iL (xC (bI hr) (aB 0) (qp aO))))) (aG (aS (qp uS))) bF)
   (aG (aS (qp (Z92 rfl (by rfl) (Z9E Y) (fM (fr:=[]) rfl (by rfl) (Z8W (aB 0)) (show List.Nodup (["sign"]:Ab Str) from by decide +kernel) (by rfl) (λ_ _ _ _ _ _=>dP) (λ_ _ _ _ _ _=>(qp (Zaa (Z4h hr) (aB 0) (qp (Z6U (by rfl) yo))))))))))))
def dO:dM P w K mg base "numbers_below" [] 2 2 (bO C CE):=Y.e vH ["words","bound","numbers","word","number"] λnd hr=>(aT (gW (Qs 2 (bU aV)))
   (aT (K9 rfl Z4K (eM (aB 0)) (Qg 3) (aT (eD (Z0p (sV (Qc (vF Y) (aC (Qv 3) (Qn [3]))))) (bV (cQ (Y.yc.2.1 base Y.b) (by rfl) (Y.val Y.yc.1))) cL)
   (aT (gW (Qs 4 (qp (Z1A (by rfl) (Z1e Y) (aB 3)))))
   (aT (eD (U0 (aB 4) (aB 1)) (bV (cQ (Y.yc.2.1 base Y.b) (by rfl) (Y.val Y.yc.1))) cL)
   (eU (aG (gX 2 (QE.flat (aB 4)))))))))
   (eU (aG (jS (i:=2))))))
def yR:dM P w K mg base "read_ins" [] 3 1 (gM C CE):=let ⟨_,yn⟩:=Y.yn;Y.e Z0g ["line","words"] λnd hr=>(aT (gW (Qs 1 (qp (rE (aB 0) (qp aO)))))
   (aT (eD (QW.qt (xB (xC (bI hr) (aQ (aB 1) (qp aE)) (qp aO)) (qC (xC (bI hr) (qp (cM (by rfl) (dG Y) (aB 1))) (qp aE))))) (bV (cQ (Y.yc.2.1 base Y.b) (by rfl) (Y.val Y.yc.1))) cL)
   (bV (jG (aS (QE.flat (aQ (QE.weak (rs:=[]) (dR (dO Y) (hr.mono (by decide)) (.cons (.cons NArgs.nil)) rfl (aC (QE.weak (qp (cY (aB 1) (cV (qp aE)) dQ))) (aC (QE.weak (qp (aY dJ (qp (rF (by rfl) yn)) (qp aE)))) (Qn []))))) (qp aE)))) (jH (Z9b (dS (pre:=fD) (dO Y) (hr.mono (by decide)) (.cons (.cons NArgs.nil)) rfl (aC (QE.weak (qp (cY (aB 1) (cV (qp aE)) dQ))) (aC (QE.weak (qp (aY dJ (qp (rF (by rfl) yn)) (qp aE)))) (Qn [])))))) (λ_ _ _ _ h=>h)))))
def vC:dM P w K mg base "read_outs" [] 3 2 (jA C CE):=let ⟨_,yq⟩:=Y.yq;Y.e Q9 ["line","wires","words"] λnd hr=>(aT (gW (Qs 2 (qp (rE (aB 0) (qp aO)))))
   (aT (eD (xC (bI hr) (aQ (aB 2) (qp aE)) (qp aO)) (bV (cQ (Y.yc.2.1 base Y.b) (by rfl) (Y.val Y.yc.1))) cL)
   (aT (eD (QW.qt (xB (rD (qp (cM (by rfl) (dG Y) (aB 2))) (qp aE)) (qC (T9 (qp (aY eE (qp (cM (by rfl) (dG Y) (aB 2))) (qp aE))) (qp (rF (by rfl) yq)))))) (bV (cQ (Y.yc.2.1 base Y.b) (by rfl) (Y.val Y.yc.1))) cL)
   (bV (jG (aS (dR (dO Y) (hr.mono (by decide)) (.cons (.cons NArgs.nil)) rfl (aC (QE.weak (qp (cY (aB 2) (cV (qp aE)) dQ))) (aC (Qv 1) (Qn [1]))))) (jH (dS (pre:=fD) (dO Y) (hr.mono (by decide)) (.cons (.cons NArgs.nil)) rfl (aC (QE.weak (qp (cY (aB 2) (cV (qp aE)) dQ))) (aC (Qv 1) (Qn [1]))))) (λ_ _ _ _ h=>h))))))
def yQ:dM P w K mg base "read_row" [] 3 2 (kL C CE):=Y.e Z0f ["line","wire","words","kind","bound"] λnd hr=>(aT (gW (Qs 2 (qp (rE (aB 0) (qp aO)))))
   (aT (gW (Qs 3 (QE.flat (aQ (aB 2) (qp aE)))))
   (aT (eD (xC (bI hr) (qp (Z6W Y.zt (by rfl) (aB 3))) (qp (aY eE (qp (cM (by rfl) (dG Y) (aB 2))) (qp aE)))) (bV (cQ (Y.yc.2.1 base Y.b) (by rfl) (Y.val Y.yc.1))) cL)
   (aT (gW (Qs 4 (xG (bZ (bI hr) (aB 3) (qp aO)) (qp aE) (QE.flat (aB 1)))))
   (bV (jG (aS (qp (xF (by rfl) (vR Y) (xH (bU (aC (QE.flat (aB 3)) aV)) (dR (dO Y) (hr.mono (by decide)) (.cons (.cons NArgs.nil)) rfl (aC (QE.weak (qp (cY (aB 2) (cV (qp aE)) dQ))) (aC (Qv 4) (Qn [4])))))))) (jH (Z76 (by rfl) (vR Y) (Z79 (bU (aC (QE.flat (aB 3)) aV)) (dS (pre:=fD) (dO Y) (hr.mono (by decide)) (.cons (.cons NArgs.nil)) rfl (aC (QE.weak (qp (cY (aB 2) (cV (qp aE)) dQ))) (aC (Qv 4) (Qn [4]))))))) (λ_ _ _ _ h=>h)))))))
def Z5C:dM P w K mg base "read" [] 4 1 (qF C CE):=let ⟨_,yr⟩:=Y.yr;Y.e Z8E ["lines","ins","rows","line"] λnd hr=>(aT (eD (rD (qp (cM (by rfl) (dG Y) (aB 0))) (qp aE)) (bV (cQ (Y.yc.2.1 base Y.b) (by rfl) (Y.val Y.yc.1))) cL)
   (aT (eD (T9 (qp (aY eE (qp (cM (by rfl) (dG Y) (aB 0))) (qp aE))) (qp (rF (by rfl) yr))) (bV (cQ (Y.yc.2.1 base Y.b) (by rfl) (Y.val Y.yc.1))) cL)
   (aT (jG (Qs 1 (dR (yR Y) (hr.mono (by decide)) (.cons NArgs.nil) rfl (aC (Ro (aQ (aB 0) (qp aE))) (Qn [0])))) (qD (i:=1) nd rfl (Or.inl rfl) (dS (pre:=fD) (yR Y) (hr.mono (by decide)) (.cons NArgs.nil) rfl (aC (Ro (aQ (aB 0) (qp aE))) (Qn [0])))) (λ_ _ _ _ h=>h))
   (aT (gW (Qs 2 (bU aV)))
   (aT (K9 rfl Z4K (eM (m1:=true) (rs:=[]) (qp (cY (aB 0) (cV (qp aE)) (cV (qp tE))))) (Qg 3) (bV (jG (gX 2 (dR (yQ Y) (hr.mono (by decide)) (.cons (.cons NArgs.nil)) rfl (aC (Qv 3) (aC (QE.weak (qp (aY dJ (aB 1) (qp (cM (by rfl) (dG Y) (aB 2)))))) (Qn [3]))))) (rJ (Z7b (i:=2) (dS (pre:=(Z4C 2)) (yQ Y) (hr.mono (by decide)) (.cons (.cons NArgs.nil)) rfl (aC (Qv 3) (aC (QE.weak (qp (aY dJ (aB 1) (qp (cM (by rfl) (dG Y) (aB 2)))))) (Qn [3])))))) (λ_ _ _ _ h=>h))))
   (bV (jG (aS (Z8h (qE Y) (hr.mono (by decide)) (.cons (.cons (.cons NArgs.nil))) (aC (Qv 1) (aC (Qv 2) (aC (QE.weak (dR (vC Y) (hr.mono (by decide)) (.cons (.cons NArgs.nil)) rfl (aC (Ro (aQ (aB 0) (qp tE))) (aC (QE.weak (qp (aY dJ (aB 1) (qp (cM (by rfl) (dG Y) (aB 2)))))) (Qn [0]))))) (Qn [1,2])))))) (jH (Z77 (qE Y) (hr.mono (by decide)) (aB 1) (aB 2) (dS (pre:=fD) (vC Y) (hr.mono (by decide)) (.cons (.cons NArgs.nil)) rfl (aC (Ro (aQ (aB 0) (qp tE))) (aC (QE.weak (qp (aY dJ (aB 1) (qp (cM (by rfl) (dG Y) (aB 2)))))) (Qn [0])))))) (λ_ _ _ _ h=>h))))))))
def nC:dM P w K mg base "circuit_lines" [] 1 1 (dN C CL):=Y.e vJ ["words","lines","word"] λnd hr=>(aT (eD (bZ (bI hr) (aB 0) (bU (Qn []))) (bV (cQ (Y.yd.2.1 base Y.b) (by rfl) (Y.val Y.yd.1))) cL)
   (eU (aH (Qs 1 (bU (aC (bU aV) aV)))
   (aH (iB rfl PassesOwn.never (eM (aB 0)) (Qg 2) (aG (cI (bZ (bI hr) (aB 2) (qp aO)) (aG (gX 1 (bU aV))) (aG (Z2E (m1:=true) (rs1:=[]) 1 (qp tE) (QE.flat (aB 2)))))))
   (aG (aS (fM (fr:=[]) rfl (by rfl) (eM (aB 1)) (show List.Nodup (["line"]:Ab Str) from by decide +kernel) (by rfl) (λ_ _ _ _ _ _=>dP) (λ_ _ _ _ _ _=>(qp (oU (qp aO) (aB 0)))))))))))
def yU:bL P w K mg base "fault_of" [] 1 1 (eG C):=Y.c Z0j ["numbers","kind"] λnd hr=>(aH (Qs 1 (xG (bZ (bI hr) (qp (cM (by rfl) (dG Y) (aB 0))) (qp aE)) (qp aO) (qp aO)))
   (aG (aS (qp (xF (by rfl) (vR Y) (qp (rG (m1:=true) (rs1:=[]) (bU (aC (QE.flat (aB 1)) aV)) (aB 0))))))))
def vD:dM P w K mg base "number_of" [] 2 1 (fJ C CL):=Y.e R0 ["word"] λnd hr=>(aT (eD (Z0p (sV (Qc (vF Y) (aC (Qv 0) (Qn [0]))))) (bV (cQ (Y.yd.2.1 base Y.b) (by rfl) (Y.val Y.yd.1))) cL)
   (eU (aG (aS (qp (Z1A (by rfl) (Z1e Y) (aB 0)))))))
def mG:dM P w K mg base "numbers_behind" [] 3 1 (dI C CL):=Y.e sT ["words","form","numbers","word","kind","number"] λnd hr=>(aT (gW (Qs 1 (qp (Z6V (Zar hr) Y.zu (by rfl) (fW (aC (QE.flat (aQ (aB 0) (qp aE))) (aC (qp (aY eE (qp (cM (by rfl) (dG Y) (aB 0))) (qp aE))) aV)))))))
   (aT (eD (K5 (aB 1)) (bV (cQ (Y.yd.2.1 base Y.b) (by rfl) (Y.val Y.yd.1))) cL)
   (aT (gW (Qs 2 (bU aV)))
   (aT (K9 rfl Z4K (Z8f (t:=true) (rs:=[1]) (by rfl) (Z83 Y) (aC (QE.weak (qp (cY (aB 0) (cV (qp aE)) dQ))) (aC (Qv 1) (Qn [1])))) (Z0r (is:=[3,4]) rfl (iZ (gH (i:=3) nd rfl (Or.inl rfl)) (iZ (gH (i:=4) nd rfl (Or.inl rfl)) L8)) rfl) (aT (jG (Qs 5 (dR (vD Y) (hr.mono (by decide)) (.cons NArgs.nil) rfl (aC (Qv 3) (Qn [3])))) (qD (i:=5) nd rfl (Or.inl rfl) (dS (pre:=fD) (vD Y) (hr.mono (by decide)) (.cons NArgs.nil) rfl (aC (Qv 3) (Qn [3])))) (λ_ _ _ _ h=>h))
   (aT (eD (QW.qt (jF (bZ (bI hr) (aB 4) (qp aO)) (iL (T9 (aB 5) (qp aE))))) (bV (cQ (Y.yd.2.1 base Y.b) (by rfl) (Y.val Y.yd.1))) cL)
   (eU (aG (gX 2 (QE.flat (aB 5))))))))
   (eU (aG (jS (i:=2))))))))
def pW:dM P w K mg base "taken_apart" [] 4 1 (bQ C CL):=Y.e zH ["line","words","numbers"] λnd hr=>(aT (gW (Qs 1 (qp (rE (aB 0) (qp aO)))))
   (aT (eD (Za8 (Z4h hr) (qp aO) (aB 1)) (bV (cQ (Y.yd.2.1 base Y.b) (by rfl) (Y.val Y.yd.1))) cL)
   (aT (eD (bZ (bI hr) (aQ (aB 1) (qp aE)) (qp aO)) (bV (jG (aS (fW (aC (qp aO) (aC (dR (nC Y) (hr.mono (by decide)) (.cons NArgs.nil) rfl (aC (QE.weak (qp (cY (aB 1) (cV (qp aE)) dQ))) (Qn []))) aV)))) (jH (Z4G (qp aO) (dS (pre:=fD) (nC Y) (hr.mono (by decide)) (.cons NArgs.nil) rfl (aC (QE.weak (qp (cY (aB 1) (cV (qp aE)) dQ))) (Qn []))))) (λ_ _ _ _ h=>h))) cL)
   (aT (eD (bZ (bI hr) (aQ (aB 1) (qp aE)) (qp aO)) (eU (aG nN)) cL)
   (aT (jG (Qs 2 (dR (mG Y) (hr.mono (by decide)) (.cons NArgs.nil) rfl (aC (Qv 1) (Qn [1])))) (qD (i:=2) nd rfl (Or.inl rfl) (dS (pre:=fD) (mG Y) (hr.mono (by decide)) (.cons NArgs.nil) rfl (aC (Qv 1) (Qn [1])))) (λ_ _ _ _ h=>h))
   (eU (aH (cI (bZ (bI hr) (aQ (aB 1) (qp aE)) (qp aO)) (aG (aS (fW (aC (qp aO) (aC (qp nO) (aC (QE.flat (aQ (aB 2) (qp aE))) aV)))))) bF)
   (aH (cI (QW.qt (xB (bZ (bI hr) (aQ (aB 1) (qp aE)) (qp aO)) (qC (bZ (bI hr) (aQ (aB 1) (qp aE)) (qp aO))))) (aG (aS (fW (aC (qp aO) (aC (Qc (yU Y) (aC (QE.weak (qp (cY (aB 2) dQ (cV (qp tE))))) (Qn []))) (aC (QE.flat (aQ (aB 2) (qp tE))) aV)))))) bF)
   (aH (cI (bZ (bI hr) (aQ (aB 1) (qp aE)) (qp aO)) (aG (aS (fW (aC (qp aO) (aC (Qc (yU Y) (aC (Qv 2) (Qn [2]))) aV))))) bF)
   (aG (aS (fW (aC (QE.flat (aQ (aB 1) (qp aE))) aV)))))))))))))
def ZaD:Z5W P w K mg base CD "say" 11 1 (uT C CL CE CW CD):=Y.z9.m (Y.yk.cl) ["self","line","asked"] λa=>λnd hr=>(kD (K7 U6 (cU (Qs 2 (dR (pW Y) (hr.mono (by decide)) (.cons NArgs.nil) rfl (aC (Qv 1) (Qn [1]))))) (qD (i:=2) nd rfl (Or.inl rfl) (dS (pre:=fD) (pW Y) (hr.mono (by decide)) (.cons NArgs.nil) rfl (aC (Qv 1) (Qn [1])))) (λ_ _ _ _ h=>h))
   (kD (Z1x (Z0o (bZ (bI hr) (aQ (aB 2) (qp aE)) (qp aO))) (kD (K7 U6 (Z6K (i:=0) rfl (Or.inl rfl) (Y.yk.cl) Y.ym (Z8X (dR (Z5C Y) (hr.mono (by decide)) (.cons NArgs.nil) rfl (aC (Ro (aQ (aB 2) (qp aE))) (Qn [2]))))) (tG (pv 0) (dS (pre:=fD) (Z5C Y) (hr.mono (by decide)) (.cons NArgs.nil) rfl (aC (Ro (aQ (aB 2) (qp aE))) (Qn [2]))) rfl) (λ_ _ _ _ h=>h))
   (sX (K8 (cU (aS (qp aO)))))) B2)
   (kD (Z1x (Z0o (bZ (bI hr) (aQ (aB 2) (qp aE)) (qp aO))) (kD (K8 (cU nN))
   (sX (K8 (vV (Z4t (qp (lD (by rfl) (nH Y) (qp (cM (by rfl) (dG Y) (gL (Y.yf.cl) Y.yl (gL (Y.yk.cl) Y.ym (aB 0)))))))))))) B2)
   (sX (K7 Z2L (vV (Z4t (dR (Y7 Y) (hr.mono (by decide)) (.cons (.cons NArgs.nil)) rfl (aC (Ro (gL (Y.yk.cl) Y.ym (aB 0))) (aC (Qv 2) (Qn [0,2])))))) (jH (dS (pre:=fD) (Y7 Y) (hr.mono (by decide)) (.cons (.cons NArgs.nil)) rfl (aC (Ro (gL (Y.yk.cl) Y.ym (aB 0))) (aC (Qv 2) (Qn [0,2]))))) (λ_ _ _ _ h=>h))))))
def yS:sK P w K mg base "_law_says" 12 1 (eV C CL CE CW CD):=Y.dk Z48 ["_law_desk","_law_line","_law_caught","_law_found","e","_law_sorts"] λa=>λnd hr=>(bR (cU (Qs 2 (qp nO)))
   (bR (cU (Qs 3 (qp nO)))
   (bR (Z6I (il:=0) (i:=3) (j:=2) (kk:=4) (Cs:=[CL,CE,CW]) (ZaD Y) (hr.mono (by decide)) (.cons NArgs.nil) (aC (Qv 1) (Qn [1])) (Z0D ⟨(Y.yd.2.1 base Y.b),(Y.yd.2.2.2.1)⟩ ⟨(Y.yc.2.1 base Y.b),(Y.yc.2.2.2.1)⟩ ⟨(Y.ye.2.1 base Y.b),(Y.ye.2.2.2.1)⟩) (by rfl) (Y.val Y.za) rfl rfl rfl rfl nd rfl (Or.inl rfl) rfl rfl rfl rfl rfl rfl (by decide))
   (bR (cU (cI (K5 (aB 2)) (aG (aS (QE.flat (aB 3)))) bF))
   (bR (cU (Qs 5 (bU (aC (qp (tF (t:=[(CL,true),(CE,false),(CW,false)]) (Z0D (gK (Y.yd.2.2.1) yA (by rfl) (bM Y) (aB 2) (by rfl) (Y.val Y.yd.1)) (gK (Y.yc.2.2.1) Y.zd (by rfl) (bM Y) (aB 2) (by rfl) (Y.val Y.yd.1)) (gK (Y.ye.2.2.1) Y.ze (by rfl) (bM Y) (aB 2) (by rfl) (Y.val Y.yd.1))))) (aC (qp (tF (t:=[(CL,false),(CE,true),(CW,false)]) (Z0D (gK (Y.yd.2.2.1) Y.zb (by rfl) (bM Y) (aB 2) (by rfl) (Y.val Y.yc.1)) (gK (Y.yc.2.2.1) yA (by rfl) (bM Y) (aB 2) (by rfl) (Y.val Y.yc.1)) (gK (Y.ye.2.2.1) Y.zc (by rfl) (bM Y) (aB 2) (by rfl) (Y.val Y.yc.1))))) (aC (qp (tF (t:=[(CL,false),(CE,false),(CW,true)]) (Z0D (gK (Y.yd.2.2.1) Y.zf (by rfl) (bM Y) (aB 2) (by rfl) (Y.val Y.ye.1)) (gK (Y.yc.2.2.1) Y.zg (by rfl) (bM Y) (aB 2) (by rfl) (Y.val Y.ye.1)) (gK (Y.ye.2.2.1) yA (by rfl) (bM Y) (aB 2) (by rfl) (Y.val Y.ye.1))))) aV))))))
   (bR (cU (sY 5 5 nd rfl (Or.inl rfl) (bU (aC (qp (tF (t:=[(CL,false),(CE,false),(CW,false)]) (Z0D (gK (Y.yd.2.2.1) Y.zh (by rfl) (bM Y) (aB 2) (by rfl) (Y.val Y.yt)) (gK (Y.yc.2.2.1) Y.zi (by rfl) (bM Y) (aB 2) (by rfl) (Y.val Y.yt)) (gK (Y.ye.2.2.1) Y.zj (by rfl) (bM Y) (aB 2) (by rfl) (Y.val Y.yt))))) (aC (qp (tF (t:=[(CL,false),(CE,false),(CW,false)]) (Z0D (gK (Y.yd.2.2.1) Y.zk (by rfl) (bM Y) (aB 2) (by rfl) (Y.val Y.yu)) (gK (Y.yc.2.2.1) Y.zm (by rfl) (bM Y) (aB 2) (by rfl) (Y.val Y.yu)) (gK (Y.ye.2.2.1) Y.zn (by rfl) (bM Y) (aB 2) (by rfl) (Y.val Y.yu))))) aV)))))
   (bR (cU (cI (QW.qt (xB (xC (bI hr) (qp (cM (by rfl) (dG Y) (fM (fr:=[]) rfl (by rfl) (eM (aB 5)) (show List.Nodup (["_law_one"]:Ab Str) from by decide +kernel) (by rfl) (λ_ _ _ _ _ _=>Z6F (sV (aB 0))) (λ_ _ _ _ _ _=>(QE.flat (aB 0)))))) (qp aE)) (qC (Z0p (sV (qp (tF (t:=[(CL,true),(CE,true),(CW,true)]) (Z0D (L7 (Y.yd.2.2.1) (Y.yd.2.2.2.2) (by rfl) (bM Y) (aB 2) (by rfl) (mI Y) (by decide +kernel)) (L7 (Y.yc.2.2.1) (Y.yc.2.2.2.2) (by rfl) (bM Y) (aB 2) (by rfl) (mI Y) (by decide +kernel)) (L7 (Y.ye.2.2.1) (Y.ye.2.2.2.2) (by rfl) (bM Y) (aB 2) (by rfl) (mI Y) (by decide +kernel)))))))))) (aG (aS (bU (aC (qp aO) aV)))) bF))
   (kE (cU (aS (bU (aC (QE.flat (aQ (QE.weak (rs:=[]) (bU (aC (qp aO) (aC (qp aO) (aC (qp aO) (aC (qp aO) (aC (qp aO) aV))))))) (qp (Z4x (Z4h hr) (aB 5) (qp uS))))) aV))))))))))))
def Y5:bL P w K mg base "_law_telling" [] 1 2 (nU C):=Y.c R5 ["_law_good","_law_bad","_law_total","_law_k"] λnd hr=>(aH (Qs 2 (qp aE))
   (aH (iB rfl PassesOwn.never (eN (rs:=[]) (by rfl) (gE Y) (aC (QE.weak (qp (cM (by rfl) (dG Y) (aB 0)))) (Qn []))) (Qg 3) (aG (Qs 2 (qp (aY xL (aB 2) (qp (aY eE (qp (aY xL (aQ (aB 0) (aB 3)) (aQ (aB 1) (aB 3)))) (qp (aY tI (aQ (aB 0) (aB 3)) (aQ (aB 1) (aB 3)))))))))))
   (aG (aS (QE.flat (aB 2))))))
def E3:bL P w K mg base "_law_there" [] 2 2 (iE C):=Y.c Z2p ["_law_drawn_here","_law_fault"] λnd hr=>(aH (cI (U0 (aQ (aB 1) (qp aE)) (qp (aY dJ (aQ (aB 0) (qp aE)) (qp (cM (by rfl) (dG Y) (aQ (aB 0) (qp aE))))))) (aG (aS (qp uS))) bF)
   (aG (aS (qp (Z8g (qp (Z1C (bI hr) (aQ (aB 1) (qp aE)) (qp aO))) (Z0s (qp (Z1D Z4N (aQ (aB 1) (qp aE)) (qp (cM (by rfl) (dG Y) (Qc (Z21 Y) (aC (Qv 0) (aC (Ro (aQ (aB 1) (qp aE))) (Qn [0,1])))))) (jJ _)))))))))
def Z3q:sK P w K mg base "_law_asked" 13 2 (pC C CL CE CW CD):=Y.dk Z2v ["_law_desk","_law_drawn_here","_law_number","_law_fault","_law_there_here","_law_given","_law_words","_law_due","_law_line"] λa=>λnd hr=>(bR (cU (Qs 3 (Qc (P1 Y) (aC (Qv 1) (aC (Qv 2) (Qn [1,2]))))))
   (bR (cU (Qs 4 (qp (Z91 (Qc (E3 Y) (aC (Qv 1) (aC (Qv 3) (Qn [1,3])))) (Z0s (qp (Z8g (qp (Z1C (bI hr) (aQ (aB 3) (qp aE)) (qp aO))) (Z0s (qp (Z1D Z4N (aQ (aB 3) (qp aE)) (qp aE) (jJ _)))))))))))
   (bR (cU (Qs 5 (qp (aM bX (qp (aM cE (aB 2) (qp aE))) (qp (aM dU (qp aE) (aQ (aB 1) (qp aE))))))))
   (bR (cU (cI (bZ (bI hr) (qp (aM bX (qp (aM cE (aB 2) (qp aE))) (qp aE))) (qp aE)) (aG (Qs 5 (qp (aY dJ (qp (aM dU (qp aE) (aQ (aB 1) (qp aE)))) (qp (aM dW (qp (aM bX (qp (aM cE (aB 2) (qp aE))) (qp aE))) (qp (aM L9 (qp aE) (qp aE))))))))) bF))
   (bR (cU (cI (QW.qt (jF (bZ (bI hr) (aQ (aB 3) (qp aE)) (qp aO)) (iL (T9 (aQ (aB 3) (qp aE)) (qp aE))))) (aH (Qs 3 (fW (aC (qp aO) (aC (QE.flat (aQ (aB 3) (qp aE))) (aC (qp aE) (aC (QE.flat (aQ (aB 3) (qp aE))) aV))))))
   (aG (Qs 4 (Qc (E3 Y) (aC (Qv 1) (aC (Qv 3) (Qn [1,3]))))))) bF))
   (bR (cU (kF (i:=6) (fr:=[]) rfl nd rfl (Or.inl rfl) (by rfl) (eM (m1:=true) (rs:=[]) (qp (cY (aB 3) (cV (qp aE)) dQ))) (show List.Nodup (["_law_part"]:Ab Str) from by decide +kernel) (by rfl) (λ_ _ _ _ _ _=>dP) (λ_ _ _ _ _ _=>(qp (lD (by rfl) (nH Y) (aB 0))))))
   (bR (Z0q (Z0o (bZ (bI hr) (qp (aM bX (aB 2) (qp aE))) (qp aE))) (bR (cU (Qs 7 (bU (aC (qp aO) aV))))
   (bR (cU (cI (sV (aB 4)) (aG (Qs 7 (Qc (Z3m Y) (aC (QE.weak (Qc (Y5 Y) (aC (QE.weak (Qc (kW Y) (aC (Qv 1) (aC (QE.weak (qp nO)) (Qn [1]))))) (aC (QE.weak (Qc (kW Y) (aC (Qv 1) (aC (Qv 3) (Qn [1,3]))))) (Qn []))))) (Qn []))))) bF))
   (kE (vV (Z4u (bI hr) (vW (j:=0) (yS Y) (hr.mono (by decide)) (.cons (.cons NArgs.nil)) (aC (Qv 0) (aC (QE.weak (qp (oU (qp aO) (qp (rG (m1:=true) (rs1:=[]) (bU (aC (qp aO) aV)) (aB 6)))))) (Qn [0])))) (aB 7)))))) xE)
   (bR (cU (Qs 8 (qp (oU (qp aO) (xH (qp (rG (m1:=true) (rs1:=[]) (bU (aC (QE.flat (aQ (QE.weak (rs:=[]) (bU (aC (qp aO) (aC (qp aO) aV)))) (qp (Z1B (by rfl) (Z1e Y) (qp (Z1C (bI hr) (aQ (aB 3) (qp aE)) (qp aO))))))) aV)) (aB 6))) (bU (aC (qp (lD (by rfl) (nH Y) (aB 5))) aV)))))))
   (bR (cU (cI (QW.qt (jF (bZ (bI hr) (qp (aM bX (aB 2) (qp aE))) (qp aE)) (iL (bZ (bI hr) (qp (aM bX (qp (aM cE (aB 2) (qp aE))) (qp aE))) (qp aE))))) (aH (Qs 8 (qp (Z6X (qp aO) (qp (lD (by rfl) (nH Y) (aB 5))))))
   (aH (Qs 3 (qp nO))
   (aG (Qs 4 (qp uS))))) bF))
   (bR (cU (Qs 7 (bU (aC (qp aO) aV))))
   (bR (cU (cI (QW.qt (jF (sV (aB 4)) (iL (rD (aB 5) (qp (aM dU (qp aE) (aQ (aB 1) (qp aE)))))))) (aG (Qs 7 (qp (oU (qp aO) (fM (fr:=[5]) rfl (by rfl) (eM (m1:=true) (rs:=[]) (Qc (kW Y) (aC (Qv 1) (aC (Qv 3) (Qn [1,3]))))) (show List.Nodup (["_law_table","_law_given"]:Ab Str) from by decide +kernel) (by rfl) (λ_ _ _ _ _ _=>dP) (λ_ _ _ _ _ _=>(qp (lD (by rfl) (nH Y) (qp (aM bX (qp (aM cE (aB 0) (qp (aM dU (qp aE) (aB 1))))) (qp aE))))))))))) bF))
   (kE (vV (Z4u (bI hr) (vW (j:=0) (yS Y) (hr.mono (by decide)) (.cons (.cons NArgs.nil)) (aC (Qv 0) (aC (Qv 8) (Qn [0,8])))) (aB 7)))))))))))))))
def Z5F:bL P w K mg base "_law_at" [] 1 2 (qG C):=Y.c Z8F ["_law_script","_law_k"] λnd hr=>(aH (cI (rD (aB 1) (qp (cM (by rfl) (dG Y) (aB 0)))) (aG (aS (QE.flat (aQ (aB 0) (aB 1))))) bF)
   (aG (aS (qp aE))))
def E4:bL P w K mg base "_law_mixed" [] 1 2 (iF C):=Y.c Z2q ["_law_cell","_law_k","_law_number"] λnd hr=>(aH (cI (U0 (aB 0) (qp (aM L9 (qp aE) (qp aE)))) (aG (aS (qp (aM bX (qp (aM cE (qp (aY eE (aB 0) (qp (aM L9 (qp aE) (qp aE))))) (qp (aM dU (qp aE) (qp (aM dW (qp aE) (qp (aM bX (aB 1) (qp aE))))))))) (qp (aM dU (qp aE) (qp aE))))))) bF)
   (aH (Qs 2 (qp (aM bX (qp (aY dJ (qp (aY dJ (qp (aM dW (aB 0) (qp aE))) (qp (aM dW (qp (aM dW (qp aE) (aB 1))) (aB 1))))) (aB 1))) (qp aE))))
   (aH (Qs 2 (qp (aM bX (qp (aM dW (aB 2) (aB 2))) (qp aE))))
   (aG (aS (qp (aM bX (qp (aM dW (aB 2) (qp aE))) (qp aE))))))))
def Z3o:bL P w K mg base "_law_folds" [] 2 2 (tP C):=Y.c Z2t ["_law_script","_law_many","_law_found","_law_some","_law_k","_law_at_here","_law_left"] λnd hr=>(aH (kF (i:=2) (fr:=[]) rfl nd rfl (Or.inl rfl) (by rfl) (eN (rs:=[]) (by rfl) (gE Y) (aC (Qv 1) (Qn [1]))) (show List.Nodup (["_law_k"]:Ab Str) from by decide +kernel) (by rfl) (λ_ _ _ _ _ _=>dP) (λ_ _ _ _ _ _=>(qp (aY dJ (qp (aM dW (aB 0) (aB 0))) (qp aE)))))
   (aH (Qs 3 (qp (cY (aB 0) dQ (cV (qp aE)))))
   (aH (iB rfl PassesOwn.never (Z2G (rs:=[]) (by rfl) (gE Y) (aC (QE.weak (qp aE)) (aC (QE.weak (qp (cM (by rfl) (dG Y) (aB 3)))) (Qn [])))) (Qg 4) (aH (Qs 5 (qp (aM bX (aB 4) (aB 1))))
   (aH (Qs 6 (qp (aY dJ (qp (aM dW (aQ (aB 2) (aB 5)) (qp aE))) (Qc (E4 Y) (aC (Ro (aQ (aB 3) (aB 4))) (aC (Qv 4) (Qn [3,4])))))))
   (aG (Z1z 2 (aB 5) (qp (aM bX (aB 6) (qp aE))))))))
   (aG (jS (i:=2))))))
def Z3n:bL P w K mg base "_law_input" [] 1 2 (mD C):=Y.c Z2s ["_law_ins","_law_k","_law_total","_law_given"] λnd hr=>(aH (Qs 2 (qp aE))
   (aH (iB rfl PassesOwn.never (eN (rs:=[]) (by rfl) (gE Y) (aC (QE.weak (qp (aM dU (qp aE) (aB 0)))) (Qn []))) (Qg 3) (aG (cI (bZ (bI hr) (qp (aM bX (qp (aM cE (aB 3) (qp (aM dU (qp aE) (aB 1))))) (qp aE))) (qp aE)) (aG (Qs 2 (qp (aY dJ (aB 2) (qp (aM dU (qp aE) (aB 3))))))) bF)))
   (aG (aS (QE.flat (aB 2))))))
def Z5E:bL P w K mg base "_law_outs" [] 1 2 (xV C):=Y.c Z4a ["_law_all_wires","_law_number","_law_outs_here","_law_k"] λnd hr=>(aH (Qs 2 (bU (aC (qp (aY eE (aB 0) (qp aE))) aV)))
   (aH (iB rfl PassesOwn.never (eN (rs:=[]) (by rfl) (gE Y) (aC (QE.weak (qp (aM bX (aB 1) (qp aE)))) (Qn []))) (Qg 3) (aG (gX 2 (qp (aM bX (qp (aM cE (aB 1) (qp (aY dJ (aB 3) (qp aE))))) (aB 0))))))
   (aH (cI (bZ (bI hr) (qp (aM bX (qp (aM cE (aB 1) (qp aE))) (qp aE))) (qp aE)) (aG (sY 2 2 nd rfl (Or.inl rfl) (fM (fr:=[0,1]) rfl (by rfl) (eN (rs:=[]) (by rfl) (gE Y) (aC (QE.weak (qp (aY eE (qp aE) (qp (cM (by rfl) (dG Y) (aB 2)))))) (Qn []))) (show List.Nodup (["_law_k","_law_all_wires","_law_number"]:Ab Str) from by decide +kernel) (by rfl) (λ_ _ _ _ _ _=>dP) (λ_ _ _ _ _ _=>(qp (aM bX (qp (aM dW (aB 0) (aB 2))) (aB 1))))))) bF)
   (aH (cI (bZ (bI hr) (qp (aM bX (qp (aM cE (aB 1) (qp aE))) (qp aE))) (qp aE)) (aG (Qs 2 (qp (Z4v (aB 2))))) bF)
   (aG (jS (i:=2)))))))
def Z5D:bL P w K mg base "_law_rows" [] 1 2 (xU C):=Y.c Z49 ["_law_ins","_law_numbers","_law_rows_here","_law_number","_law_at_here","_law_one","_law_two"] λnd hr=>(aH (Qs 2 (bU aV))
   (aH (iB rfl PassesOwn.never (eM (aB 1)) (Qg 3) (aH (Qs 4 (qp (aY dJ (aB 0) (qp (cM (by rfl) (dG Y) (aB 2))))))
   (aH (Qs 5 (qp (aY eE (qp (aY eE (aB 4) (qp aE))) (qp (aM bX (qp (aM cE (aB 3) (qp aE))) (qp (Z4w rfl (by rfl) (Z84 Y) (aC (QE.weak (qp aE)) (aC (QE.weak (qp (Z8Z rfl (by rfl) (Z9D Y) (aC (Qv 4) (aC (QE.weak (qp aE)) (Qn [4])))))) (Qn []))))))))))
   (aH (Qs 6 (qp (aY eE (qp (aY eE (aB 4) (qp aE))) (qp (aM bX (qp (aM cE (aB 3) (qp aE))) (qp (Z4w rfl (by rfl) (Z84 Y) (aC (QE.weak (qp aE)) (aC (Qv 4) (Qn [4]))))))))))
   (aG (cI (QW.qt (xB (bZ (bI hr) (aB 4) (qp aE)) (qC (bZ (bI hr) (qp (aM bX (aB 3) (qp aE))) (qp aE))))) (aG (gX 2 (fW (aC (qp aO) (aC (qp (aM bX (qp (aM cE (aB 3) (qp aE))) (qp aE))) aV))))) (aG (cI (rD (qp (aM bX (aB 3) (qp aE))) (qp aE)) (aG (gX 2 (fW (aC (qp aO) (aC (QE.flat (aB 5)) aV))))) (aG (gX 2 (fW (aC (QE.flat (aQ (QE.weak (rs:=[]) (bU (aC (qp aO) (aC (qp aO) (aC (qp aO) (aC (qp aO) aV)))))) (qp (aM bX (aB 3) (qp aE))))) (aC (QE.flat (aB 5)) (aC (QE.flat (aB 6)) aV))))))))))))))
   (aG (jS (i:=2)))))
def Z3p:bL P w K mg base "_law_drawn" [] 3 1 (tQ C):=Y.c Z2u ["_law_script","_law_first","_law_ins","_law_folds_here","_law_rows_here","_law_outs_here"] λnd hr=>(aH (Qs 1 (Qc (Z5F Y) (aC (Qv 0) (aC (QE.weak (qp aE)) (Qn [0])))))
   (aH (Qs 2 (QE.flat (aQ (QE.weak (rs:=[]) (bU (aC (qp (aM bX (aB 1) (qp aE))) (aC (qp (aM bX (qp (aM cE (aB 1) (qp aE))) (qp aE))) aV)))) (qp (Z1B (by rfl) (Z1e Y) (qp (Z1C (bI hr) (qp (aM bX (qp (aM cE (aB 1) (qp aE))) (qp aE))) (qp aE))))))))
   (aH (Qs 3 (Qc (Z3o Y) (aC (Qv 0) (aC (QE.weak (qp aE)) (Qn [0])))))
   (aH (Qs 4 (Qc (Z5D Y) (aC (Qv 2) (aC (QE.weak (qp (cY (aB 3) dQ (cV (qp (aM bX (Qc (Z5F Y) (aC (Qv 0) (aC (QE.weak (qp aE)) (Qn [0])))) (qp aE))))))) (Qn [2])))))
   (aH (cI (bZ (bI hr) (qp (aY dJ (aB 2) (qp (cM (by rfl) (dG Y) (aB 4))))) (qp aE)) (aG (Qs 4 (bU (aC (fW (aC (qp aO) (aC (qp (aM bX (qp (aM cE (aB 1) (qp aE))) (qp aE))) aV))) aV)))) bF)
   (aH (Qs 5 (Qc (Z5E Y) (aC (QE.weak (qp (aY dJ (aB 2) (qp (cM (by rfl) (dG Y) (aB 4)))))) (aC (Ro (aQ (aB 3) (qp aE))) (Qn [3])))))
   (aG (Z6M (L4 2 (L4 4 (L4 5 (Z6Q (fM (fr:=[2]) rfl (by rfl) (eN (rs:=[]) (by rfl) (gE Y) (aC (Qv 2) (Qn [2]))) (show List.Nodup (["_law_k","_law_ins"]:Ab Str) from by decide +kernel) (by rfl) (λ_ _ _ _ _ _=>dP) (λ_ _ _ _ _ _=>(Qc (Z3n Y) (aC (Qv 1) (aC (Qv 0) (Qn [1,0])))))) Z6P))))))))))))
def zU:bL P w K mg base "_law_new_words" [] 1 1 (lO C):=Y.c zL ["_law_drawn_here","_law_words","_law_row"] λnd hr=>(aH (Qs 1 (bU (aC (qp aO) (aC (qp aO) (aC (qp (L5 (by rfl) (nH Y) (aQ (aB 0) (qp aE)))) aV)))))
   (aH (iB rfl PassesOwn.never (eM (aQ (aB 0) (qp aE))) (Qg 2) (aG (Qs 1 (xH (qp (rG (m2:=true) (rs2:=[]) (aB 1) (bU (aC (qp aO) aV)))) (fM (fr:=[]) rfl (by rfl) (eM (aB 2)) (show List.Nodup (["_law_part"]:Ab Str) from by decide +kernel) (by rfl) (λ_ _ _ _ _ _=>dP) (λ_ _ _ _ _ _=>(qp (L5 (by rfl) (nH Y) (aB 0)))))))))
   (aG (aS (xH (qp (rG (m2:=true) (rs2:=[]) (aB 1) (bU (aC (qp aO) (aC (qp aO) aV))))) (fM (fr:=[]) rfl (by rfl) (eM (aQ (aB 0) (qp aE))) (show List.Nodup (["_law_wire"]:Ab Str) from by decide +kernel) (by rfl) (λ_ _ _ _ _ _=>dP) (λ_ _ _ _ _ _=>(qp (L5 (by rfl) (nH Y) (aB 0))))))))))
def Z9g{b:Af}{fd:FuncData}(F:FunD K "law" "law" Z89 b fd):gT P w K mg base CX0 14 b fd ["_law_script"] (spD K 1 (Z8j C CL CE CW CD)):=F.k (N:=["_law_script","_law_drawn_here","_law_desk","_law_cells","_law_k"]) Rn λnd hr=>(Za9 (bR (cU (Qs 1 (Qc (Z3p Y) (aC (Qv 0) (Qn [0])))))
   (Z2C (i:=2) nd rfl (Or.inl rfl) (Z8Y (Z7s Y) (hr.mono (by decide))) λa =>
   (bR (Z0q (Z8R (bI hr) (vW (j:=0) (yS Y) (hr.mono (by decide)) (.cons (.cons NArgs.nil)) (aC (Qv 2) (aC (QE.weak (qp (oU (qp aO) (Qc (zU Y) (aC (Qv 1) (Qn [1])))))) (Qn [2])))) (qp aO)) (kE (cU (aS (qp uS)))) xE)
   (bR (cU (Qs 3 (xH (qp (cY (aB 0) (cV (qp aE)) (cV (qp aE)))) (bU (aC (qp aE) (aC (qp aE) aV))))))
   (bR (Z6J (i:=4) rfl PassesOwn.never nd rfl (Or.inl rfl) (eN (rs:=[]) (by rfl) (gE Y) (aC (QE.weak (qp (cM (by rfl) (dG Y) (aB 3)))) (Qn []))) (kE (Z0q (Z6H (Z6G (vW (j:=0) (Z3q Y) (hr.mono (by decide)) (.cons (.cons (.cons NArgs.nil))) (aC (Qv 2) (aC (Qv 1) (aC (QE.weak (Qc (E4 Y) (aC (Ro (aQ (aB 3) (aB 4))) (aC (QE.weak (qp (aY dJ (aB 4) (qp aE)))) (Qn [3]))))) (Qn [2,1]))))))) (kE (cU (aS (qp uS)))) xE)))
   (kE (cU (aS (qp uS))))))))))
end
def head_mk{w:Ak}{K:Frag}{h:Ah}{mg:Str->Aa Ad}{fa:Af}{P:Aj}(X:K.In h)(G:h.Ns mainGlobals mg)(q:mg "law" = some (.ref fa))(hk:K=FR.KK w.params)
  {C CD CL CE CW yg yh yi:Af}
  (M:∃f,HD K "law" Z89 f)
  (yj:NoAttr K C "ins")
  (yl:NoAttr K C "rows")
  (J:NoAttr K C "outs")
  (H:HCl K "Circuit" C kB "Circuit.__init__")
  (ym:NoAttr K CD "circuit")
  (yk:HCl K "Desk" CD nK "Desk.__init__")
  {zv:Tok}(yo:nsIn K mainGlobals "FIGURES" = some (some (.str "0123456789" zv)))
  {zw:Tok}(L:nsIn K mainGlobals "MOST_FIGURES" = some (some (.int 9 zw)))
  {zx:Tok}(yn:nsIn K mainGlobals "MOST_INS" = some (some (.int 8 zx)))
  {Y:Tok}(yq:nsIn K mainGlobals "MOST_OUTS" = some (some (.int 16 Y)))
  {l:Af}{b:Ae DictEntry}{p:Nat}(zz:nsIn K mainGlobals "NUMBERS_BEHIND" = some (some (.ref l))) (y:K.lookup l=some ⟨.type "dict",none,.dict b p,#[]⟩) (uc:PySem.W.KeysLit w.params b.toList) (ud:(l==sysModules)=false) (ue:esK [("fix",1),("not",1),("and",2),("or",2),("xor",2)] b.toList)
  {Q:Tok}(yr:nsIn K mainGlobals "MOST_ROWS" = some (some (.int 60 Q)))
  {j:Af}{n:Ae DictEntry}{o:Nat}(ug:nsIn K mainGlobals "FORMS" = some (some (.ref j))) (uh:K.lookup j=some ⟨.type "dict",none,.dict n o,#[]⟩) (ui:(j==sysModules)=false) (N:esT K P w [([.inr "give",.inl 1],["number"]),([.inr "stuck",.inl 3],["number","bit","number"]),([.inr "leg",.inl 4],["number","bit","bit","number"]),([.inr "faults",.inl 0],[]),([.inr "idle",.inl 0],[]),([.inr "tells",.inl 2],["number","bit"]),([.inr "tells",.inl 3],["number","bit","bit"]),([.inr "lean",.inl 0],[])] n.toList)
  (z9:HMe K "say" CD Z87 "Desk.say")
  (yt:nsIn K mainGlobals "NotTold" = some (some (.ref yg)))
  (yu:nsIn K mainGlobals "TooGreat" = some (some (.ref yi)))
  (R:nsIn K mainGlobals "StuckError" = some (some (.ref yh)))
  (zb:PySem.W.kitOne K (.ref CL) (.ref CE)=some false)
  (U:PySem.W.kitOne K (.ref CW) (.ref CE)=some false)
  (A:PySem.W.kitOne K (.ref CE) (.ref CL)=some false)
  (I:PySem.W.kitOne K (.ref CW) (.ref CL)=some false)
  (zf:PySem.W.kitOne K (.ref CL) (.ref CW)=some false)
  (zg:PySem.W.kitOne K (.ref CE) (.ref CW)=some false)
  (O:PySem.W.kitOne K (.ref CL) (.ref yg)=some false)
  (r:PySem.W.kitOne K (.ref CE) (.ref yg)=some false)
  (E:PySem.W.kitOne K (.ref CW) (.ref yg)=some false)
  (zk:PySem.W.kitOne K (.ref CL) (.ref yi)=some false)
  (zm:PySem.W.kitOne K (.ref CE) (.ref yi)=some false)
  (zn:PySem.W.kitOne K (.ref CW) (.ref yi)=some false)
  (S:HXc K "NoLine" CL yh)
  (B:HXc K "NoCircuit" CE yh)
  (ye:HXc K "NoWire" CW yh)
  (T:(CL==CE)=false) (Z:(CL==CW)=false) (t:(CE==CW)=false) :
  ∃(fd:FuncData) (m:Ab D->Aa D),(∀(s:Ac) (u:Ad),BindsTo s fd ⟨[u],[]⟩ [("_law_script",u)])/\(∀ns:Ab Int,ns.length<=63->(∀i∈ns,Builtin.Int.intBits i<=1048576)->m [.lst (ns.map D.int)]=some (.bl true)) /\
   ∀base:Ah,K.In base->base.Ns mainGlobals mg->gT P w K mg base CX0 14 fa fd ["_law_script"] (spD K 1 m):=by
 have a:∀{x:Str}{v:Ad},nsIn K mainGlobals x=some (some v)->mg x=some v:=λe=>mg_of X G e;exact HB.law X G M q (λ_ _=>rfl) (λm=>∀ns:Ab Int,ns.length<=63->(∀i∈ns,Builtin.Int.intBits i<=1048576)->m [.lst (ns.map D.int)]=some (.bl true)) (Z54 (ne_of_beq_false T) (ne_of_beq_false Z) (ne_of_beq_false t)) λfd F base KB NB=>Z9g (P:=P) (C:=C) ⟨⟨hk,⟨_,X,G⟩,KB⟩,yj,yl,J,H,ym,yk,⟨_,a yo⟩,⟨_,a L⟩,⟨_,a yn⟩,⟨_,a yq⟩,⟨⟨l,b,p,a zz,y,uc,ud,ue⟩⟩,⟨_,a yr⟩,⟨⟨j,n,o,a ug,uh,ui,N,by decide +kernel⟩⟩,z9,yt,yu,R,zb,U,A,I,zf,zg,O,r,E,zk,zm,zn,S,B,ye⟩ F
end G
open PySem PySem.W PyProof.Rows
set_option maxRecDepth 100000 in
set_option maxHeartbeats 0 in
theorem PySem.Challenge.cw_stuckwire_k61_desk_gives_holds : PySem.Challenge.rw_stuckwire_k61_desk_gives.Holds := by
  w_on; o_law
  refine holds_open (q := FR.qK) (loose := FR.looseK) (Xt := fun s => xlAt FR.qK [] s && recOk (RowW.records PySem.Challenge.rw_stuckwire_k61_desk_gives.row.toRowW) s) (XP := XL FR.qK []) (Yf := Hook.obs (kHook FR.KK FR.asK FR.asK_eq)) (Ya := Hook.val (kHook FR.KK FR.asK FR.asK_eq)) (YP := Hook.says (kHook FR.KK FR.asK FR.asK_eq)) (N := 9048) FR.leftK (Hook.of (kHook FR.KK FR.asK FR.asK_eq)) (Hook.keeps (kHook FR.KK FR.asK FR.asK_eq)) (fun s e => xl_of s (Bool.and_eq_true_iff.mp e).1) XL.keeps (by rfl) (by rfl) (by rfl) (fun s e => recFacts_of (Bool.and_eq_true_iff.mp e).2) (by rfl) (by first | assumption | decide +kernel) (by decide +kernel) ⟨rfl, rfl, rfl, rfl, rfl, by decide +kernel⟩ ?hw ?hc
  case hw => w_witness2
  k_fill
  refine PD.walkD (l := PySem.Challenge.rw_stuckwire_k61_desk_gives) (n := 63) (k := 14) (x := "_law_script") rfl (by decide) rfl ⟨rfl, by decide, by decide⟩ (fun w h Y => PySem.W.kIn_of Y) ?F
  case F =>
    intro w mg fa h b f a
    apply G.head_mk b f a rfl
    any_goals k_is
    any_goals (apply Exists.intro; apply PD.HD.mk <;> k_is)
    any_goals (apply PD.HCl.mk <;> k_is)
    try any_goals k_is
    any_goals (apply PD.HMe.mk <;> k_is)
    any_goals (apply PD.HXc.mk <;> first | k_is | rfl | decide +kernel | (apply PD.HXs.mk <;> first | k_is | rfl | decide +kernel))
    any_goals (apply PD.kit_o <;> first | k_is | decide +kernel)
    all_goals first | rfl | decide +kernel | (refine ⟨?_,?_,?_,?_,?_,?_,?_,?_,trivial⟩ <;> exact ⟨_, _, rfl, ⟨_, _, _, by k_is, rfl, rfl, by decide, by repeat (first | exact .nil | refine .cons ⟨_, rfl⟩ ?_)⟩, _, _, _, by k_is, rfl, rfl, by decide, by repeat (first | exact .nil | refine .cons ⟨_, rfl⟩ ?_)⟩) | (exact ⟨⟨_, _, rfl, rfl⟩, ⟨_, _, rfl, rfl⟩, ⟨_, _, rfl, rfl⟩, ⟨_, _, rfl, rfl⟩, ⟨_, _, rfl, rfl⟩, trivial⟩) | (exact ⟨⟨⟨_, rfl⟩, _, rfl⟩, ⟨⟨_, rfl⟩, _, rfl⟩, ⟨⟨_, rfl⟩, _, rfl⟩, ⟨⟨_, rfl⟩, _, rfl⟩, ⟨⟨_, rfl⟩, _, rfl⟩, trivial⟩)
