import PyProof.Rows.All
import Wide.All
import OpenK.AllK
import Wide.FinOn
import Lean
import PyProof.EqAt
import PyProof.EqKinds
import PyProof.TupleCall
import KE.KRevIter
import PyProof.ListRange
import PyProof.ZipIter
import PyProof.Rows.ZipGen
import KE.KDictSum
import KE.KRevSl
import PyProof.DictWalks
import PyProof.DictIter
import KE.KDictLaws
import PyProof.StrReplace2
import PyProof.CallStr
import KE.KNestM
import KE.KLam
import PyProof.RaisesMany
import PyProof.ExcClass3
import PyProof.RulesTry
import PyProof.StationsW
import PyProof.RulesAs
import KE.KIsAll
import PyProof.ExcBaseAll.ValueError
import KE.IntTextLaws
import Open.Tops
import PySem.Challenge.RW_stuckwire_k62_desk_faults
set_option maxHeartbeats 0
open PySem.W (Frag fnOf keepIn codeIn nsIn mg_of)
set_option Elab.async false
set_option linter.all false
noncomputable section
set_option maxRecDepth 100000
set_option bootstrap.genMatcherCode false
set_option compiler.extract_closed false
set_option genSizeOfSpec false
abbrev Ra:=@PySem.wpAny_bind
abbrev Rb:=@PySem.wpAny_pure
abbrev Rc:=@PySem.wpAny_mono
abbrev Re:=@PySem.wpAny_newObj_type
abbrev Rf:=@PySem.wpAny_holding
abbrev Rg:=@PySem.wpAny_call_entry
abbrev Rh:=@PySem.wpAny_of_eq
abbrev Ri:=@PySem.wpAny_Call_Name_kw
abbrev Rj:=@decide_eq_false
abbrev Rk:=@decide_eq_true
abbrev Rl:=@decide_eq_true_eq
abbrev Rm:=@if_true
abbrev Rn:=@if_false
namespace PySem.W.Fast
end PySem.W.Fast
abbrev Aa:=Option
abbrev Ab:=List
abbrev Ac:=PySem.Shared
abbrev Ad:=PySem.Value
abbrev Ae:=Array
abbrev Af:=PySem.Addr
abbrev Ag:=PySem.Expr
abbrev Ah:=PySem.Heap
abbrev Ai:=PySem.Around
abbrev Aj:=PySem.Program
abbrev Ak:=PySem.World
abbrev Qaa:=@List.length_map
abbrev Qab:=@List.mem_cons_of_mem
abbrev Qac:=@PySem.Heap.get?_push_of_some
abbrev Qad:=@List.mem_cons
abbrev Qae:=@List.getElem?_eq_some_iff
abbrev Qaf:=@List.length_cons
abbrev Qag:=@List.mem_append_right
abbrev Qah:=@List.mem_cons_self
abbrev Qai:=@List.mem_append
abbrev Qaj:=@List.getElem?_eq_getElem
abbrev Qak:=@List.map_cons
abbrev Qal:=@PySem.Heap.lt_size
abbrev Qam:=@List.length_append
abbrev Qan:=@Nat.le_refl
abbrev Qao:=@List.size_toArray
abbrev Qap:=@PySem.Heap.get?_push_size
abbrev Qaq:=@List.mem_append_left
abbrev Qar:=@List.getElem?_set_ne
abbrev Qas:=@Int.emod_lt_of_pos
abbrev Qat:=@List.length_take
abbrev Qau:=@List.nodup_append
abbrev Qav:=@Option.map_some
abbrev Qaw:=@List.map_append
abbrev Qax:=@List.nodup_cons
abbrev Qay:=@List.getElem?_eq_none
abbrev Qaz:=@List.getElem?_cons_zero
abbrev QaA:=@List.getElem?_map
abbrev QaB:=@Int.emod_nonneg
abbrev QaC:=@Nat.le_trans
abbrev QaD:=@List.take_length
abbrev QaE:=@Bool.and_eq_true
abbrev QaF:=@List.nodup_nil
abbrev QaG:=@List.mem_map
abbrev QaH:=@List.getElem?_append_left
abbrev QaI:=@Option.some.inj
abbrev QaJ:=@Nat.lt_of_lt_of_le
abbrev QaK:=@List.mem_of_getElem?
abbrev QaL:=@List.lookup_cons
abbrev QaM:=@Nat.ne_of_lt
abbrev QaN:=@Option.join_some
abbrev QaO:=@Int.toNat_natCast
abbrev QaP:=@List.append_nil
abbrev QaQ:=@List.getElem?_set_self
abbrev QaR:=@List.set_eq_of_length_le
abbrev QaS:=@List.mem_singleton
abbrev QaT:=@List.map_nil
abbrev QaU:=@List.length_range
abbrev QaV:=@List.map_map
abbrev QaW:=@List.getElem?_append_right
abbrev QaX:=@List.length_singleton
abbrev QaY:=@List.getElem?_cons_succ
abbrev QaZ:=@Bool.false_eq_true
abbrev Qa0:=@List.find?_cons
abbrev Qa1:=@List.append_assoc
abbrev Qa2:=@Nat.zero_le
abbrev Qa3:=@Option.bind_some
abbrev Qa4:=@List.not_mem_nil
abbrev Qa5:=@List.cons_append
abbrev Qa6:=@Nat.pow_le_pow_right
abbrev Qa7:=@Nat.zero_add
abbrev Qa8:=@List.length_nil
abbrev Qa9:=@List.all_eq_true
abbrev Qba:=@List.pairwise_cons
abbrev Qbb:=@Bool.false_ne_true
abbrev Qbc:=@List.forIn_cons
abbrev Qbd:=@List.filterMap_cons_some
abbrev Qbe:=@Nat.le_of_lt
abbrev Qbf:=@List.eq_nil_iff_forall_not_mem
abbrev Qbg:=@Nat.lt_irrefl
abbrev Qbh:=@List.map_congr_left
abbrev Qbi:=@List.getElem?_replicate
abbrev Qbj:=@Int.toNat_of_nonneg
abbrev Qbk:=@Array.length_toList
abbrev Qbl:=@List.eq_nil_of_length_eq_zero
abbrev Qbm:=@List.take_succ
abbrev Qbn:=@List.mem_range
abbrev Qbo:=@List.take_of_length_le
abbrev Qbp:=@Nat.two_pow_pos
abbrev Qbq:=@List.nil_append
abbrev Qbr:=@List.length_filter_le
abbrev Qbs:=@List.foldl_cons
abbrev Qbt:=@Int.one_mul
abbrev Qbu:=@PySem.Heap.size_push
abbrev Qbv:=@Option.some.injEq
abbrev Qbw:=@List.foldl_append
abbrev Qbx:=@List.mem_of_mem_take
abbrev Qby:=@List.getElem?_of_mem
abbrev Qbz:=@List.mem_or_eq_of_mem_set
abbrev QbA:=@List.length_drop
abbrev QbB:=@List.take_succ_cons
abbrev QbC:=@Nat.ne_of_gt
abbrev QbD:=@List.filterMap_cons_none
abbrev QbE:=@List.zip_cons_cons
abbrev QbF:=@List.mem_filter
namespace L2
open PySem PySem.Spec PyProof.Rows
abbrev sEa(e:Ag)(es:Ab Ag)(n:Env):Prop:=starEach (e::es) n=(false,eval e n)::starEach es n
abbrev bTa(p:Pos)(es:Ab Ag)(n:Env):Prop:=(backTo p (starEach es n)).any (·.1)=false
abbrev nDb(x:Str):Prop:=(x==("__debug__" : Str))=false
abbrev Key:=Sum Int Str
def yQ:Key->Ad->Bool
 | .inl k,v=>Value.isInt k v
 | .inr x,v=>Value.isStrOf x v
def Zc7(w:Ak):Key->Int
 | .inl k=>hashInt k
 | .inr x=>hashStr w x
def dO:∀{k:Key}{v:Ad},yQ k v=true->(∃i t,k=Sum.inl i/\v=Value.int i t)\/(∃x t,k=Sum.inr x/\v=Value.str x t)
 | .inl i,v,h=>by
  obtain⟨t,e⟩:=Value.isInt_shape (k:=i) (v:=v) h;exact .inl ⟨i,t,rfl,e⟩
 | .inr x,v,h=>by
  obtain⟨t,e⟩:=Value.isStrOf_shape (x:=x) (v:=v) h;exact .inr ⟨x,t,rfl,e⟩
def Z3Y(i:Int)(t:Tok):yQ (.inl i) (.int i t)=true:=by simp[yQ,Value.isInt]
def Z3X(x:Str)(t:Tok):yQ (.inr x) (.str x t)=true:=by simp[yQ,Value.isStrOf]
def Zaf(a b:Int):decide ((Sum.inl a:Key)=Sum.inl b)=(a==b):=by
 by_cases e:a=b
 .subst e;simp
 .have h:¬(Sum.inl a:Key)=Sum.inl b:=λq=>e (Sum.inl.inj q);rw[Rj h];exact(beq_eq_false_iff_ne.mpr e).symm
def Zac(a b:Str):decide ((Sum.inr a:Key)=Sum.inr b)=decide (a=b):=by
 by_cases e:a=b
 .subst e;simp
 .have h:¬(Sum.inr a:Key)=Sum.inr b:=λq=>e (Sum.inr.inj q);rw[Rj h,Rj e]
def Zae(a:Int)(b:Str):decide ((Sum.inl a:Key)=Sum.inr b)=false:=Rj (λq=>nomatch q)
def Zad(a:Str)(b:Int):decide ((Sum.inr a:Key)=Sum.inl b)=false:=Rj (λq=>nomatch q)
def dI(prog:Aj)(w:Ak):PySem.KeyKind prog w Key where
 is:=yQ
 hash:=Zc7 w
 inj:=λv a b ha hb=>by
  rcases dO ha with⟨i,t,rfl,rfl⟩|⟨x,t,rfl,rfl⟩
  .rcases dO hb with⟨j,u,rfl,e⟩|⟨y,u,rfl,e⟩
   .injection e with e1 _;rw[e1]
   .exact nomatch e
  .rcases dO hb with⟨j,u,rfl,e⟩|⟨y,u,rfl,e⟩
   .exact nomatch e
   .injection e with e1 _;rw[e1]
 byValue := λk v h => by
  rcases dO h with⟨i,t,rfl,rfl⟩|⟨x,t,rfl,rfl⟩<;>rfl
 pyHash:=λhv h=>by
  rcases dO hv with⟨i,t,rfl,rfl⟩|⟨x,t,rfl,rfl⟩
  .exact wpAny_pyHash_int h
  .exact wpAny_pyHash_str h
 eqBool:=λhu hv h=>by
  rcases dO hu with⟨i,t,rfl,rfl⟩|⟨x,t,rfl,rfl⟩
  .rcases dO hv with⟨j,u,rfl,rfl⟩|⟨y,u,rfl,rfl⟩
   .rw[Zaf]at h;exact wpAny_eqBool_int h
   .rw[Zae]at h;exact SeqAt.EqAt.int_str i t y u _ _ _ _ h
  .rcases dO hv with⟨j,u,rfl,rfl⟩|⟨y,u,rfl,rfl⟩
   .rw[Zad]at h;exact SeqAt.EqAt.str_int x t j u _ _ _ _ h
   .rw[Zac]at h;exact wpAny_eqBool_str h
 «strs»:=λk x t v h=>by
  rcases dO h with⟨i,u,rfl,e⟩|⟨y,u,rfl,e⟩
  .exact nomatch e
  .injection e with e1 _;subst e1;cases v<;>rfl
def Y7(prog:Aj)(w:Ak)(i:Int)(t:Tok):(dI prog w).is (.inl i) (.int i t)=true:=Z3Y i t
def Y6(prog:Aj)(w:Ak)(x:Str)(t:Tok):(dI prog w).is (.inr x) (.str x t)=true:=Z3X x t
inductive V where
 |non|bl (b:Bool)|int (i:Int)|str (x:Str)|byt (b:Array UInt8)|flt (b:UInt64)|ref (a:Addr)|ty (n:String)
 deriving DecidableEq
def RelV:V->Ad->Prop
 | .non,u=>u=Value.none
 | .bl b,u=>u=Value.bool b
 | .int i,u=>∃t,u=Value.int i t
 | .str x,u=>∃t,u=Value.str x t
 | .byt b,u=>∃t,u=Value.bytes b t
 | .flt b,u=>∃t,u=Value.float b t
 | .ref a,u=>u=Value.ref a
 | .ty n,u=>u=Value.type n
abbrev Vals:Ab V->Ab Ad->Prop:=Paired RelV
theorem Vals.length(r:Vals xs us):xs.length=us.length:=Paired.length r
theorem Vals.get:∀{xs:Ab V}{us:Ab Ad}{i:Nat}{x:V},Vals xs us->xs[i]?=some x->∃u,us[i]?=some u/\RelV x u
 |_,_,_,_,.nil,e=>by simp at e
 |_,_,0,_,.cons r _,e=>by simp at e;subst e;exact⟨_,rfl,r⟩
 |_,_,i+1,x,.cons _ t,e=>by
  obtain⟨u,h1,a⟩:=Vals.get (i:=i) (x:=x) t (by simpa using e);exact⟨u,by simpa using h1,a⟩
theorem Vals.set(r:RelV x u):∀{xs:Ab V}{us:Ab Ad}(i:Nat),Vals xs us->Vals (xs.set i x) (us.set i u)
 |_,_,_,.nil=>.nil
 |_,_,0,.cons _ t=>.cons r t
 |_,_,i+1,.cons q t=>.cons q (Vals.set r i t)
theorem Vals.append:∀{xs ys:Ab V}{us ws:Ab Ad},Vals xs us->Vals ys ws->Vals (xs++ys) (us++ws)
 |_,_,_,_,.nil,s=>s
 |_,_,_,_,.cons r t,s=>.cons r (Vals.append t s)
theorem Vals.take:∀{xs:Ab V}{us:Ab Ad}(n:Nat),Vals xs us->Vals (xs.take n) (us.take n)
 |_,_,0,_=>.nil
 |_,_,_+1,.nil=>.nil
 |_,_,n+1,.cons r t=>.cons r (Vals.take n t)
theorem Vals.drop:∀{xs:Ab V}{us:Ab Ad}(n:Nat),Vals xs us->Vals (xs.drop n) (us.drop n)
 |_,_,0,r=>r
 |_,_,_+1,.nil=>.nil
 |_,_,n+1,.cons _ t=>Vals.drop n t
def Vals.none_of:∀{xs:Ab V}{us:Ab Ad}{i:Nat},Vals xs us->xs[i]?=none->us[i]?=none:=λ{xs us i} r e=>by
 have h1:=r.length;have a:xs.length<=i:=List.getElem?_eq_none_iff.mp e;exact List.getElem?_eq_none_iff.mpr (by omega)
def RelO:Aa V->Aa Ad->Prop
 |some v,some u=>RelV v u
 |none,none=>True
 |_,_=>False
def KV{κ:Type}:Ab (κ×V)->Ab (κ×Ad)->Prop:=Paired λ(p:κ×V) (q:κ×Ad)=>p.1=q.1/\RelV p.2 q.2
def kV:Key->V
 | .inl i=>.int i
 | .inr x=>.str x
inductive HO where
 /-- a list -/
 |lst (xs:List V)
 /-- a tuple (never changes) -/
 |tup (xs:List V)
 /-- a dict whose keys are ints and texts;one whose keys are tuples of ints and texts (the empty one is both) -/
 |dK (kvs:List (Key×V))|dT (kvs:List (List Key×V))
 |dE (es:List (List Key×Addr×V)) (ep:Nat)
 |cod (q:Str)
 /-- a set of ints: its members,its size -/
 |set (S:Int->Bool) (n:Nat)
 /-- an instance of the class at C,its dict at dx,its attributes -/
 |ins (C dx:Addr) (fs:List (Str×V))
 /-- the dict of the instance at x -/
 |own (x:Addr)
 /-- the dict of an exception -/
 |xd (fs:List (Str×V))
 /-- a bound method,f of x -/
 |met (f x:Addr)
 /-- a range object lo,lo+1,.. below hi -/
 |rng (lo hi:Int)
 /-- a thing that is known to the object (the script;a dict while a loop walks it): read,never written while it is so -/
 |frz (o:Obj) (u:HO)
 /-- a code object's table -/
 |tbl (ps:Array (Pos×Str))
 /-- any other thing,by what is true of its one object (a def of one's own: SetO a S n:=HO.ext λh=>..) -/
 |ext (φ:Heap->Prop)
abbrev Hp:=Af->Aa HO
def upd(H:Hp)(a:Af)(o:HO):Hp:=λb=>if b=a then some o else H b
def bG:upd H a o a=some o:=by unfold upd;rw[if_pos rfl]
def aY(h:b≠a):upd H a o b=H b:=by unfold upd;rw[if_neg h]
def Zba{H:Hp}{a b:Af}{o u:HO}(h:H a=some o)(h':H b=some u)(d:o≠u):a≠b:=by
 intro e;subst e;rw[h]at h';exact d (QaI h')
def bO{H:Hp}{a b:Af}{o:HO}(h:H a=some o)(h':H b=none):a≠b:=by
 intro e;subst e;rw[h]at h';cases h'
section
variable (P:Aj)(w:Ak)
def ObjOk(H:Hp)(h:Ah)(a:Af):HO->Prop
 | .lst xs=>xs.length<=sizeLine/\∃(its:Ab Ad) (n:Nat),Vals xs its/\h.get? a=some { cls:=.type "list",data:=.seq its.toArray n }
 | .tup xs=>xs.length<=sizeLine/\∃its:Ab Ad,Vals xs its/\IsTup h a its.toArray
 | .dK kvs=>kvs.length<=sizeLine/\(a==sysModules)=false/\∃vs,KV kvs vs/\h.DictOf (dI P w) a vs
 | .dT kvs=>kvs.length <= sizeLine /\ (a == sysModules)=false /\ ∃ xs:Ab (Ab Key × Af × Ad),
   Paired (λ(p:Ab Key×V) (q:Ab Key×Af×Ad)=>p.1=q.1/\H q.2.1=some (.tup (p.1.map kV))/\RelV p.2 q.2.2) kvs xs /\
   ∃o es ep,h.get? a=some o/\o.ExactDict/\o.data=.dict es ep/\es.toList=xs.map (entryOfKey (tupleKind (dI P w)))/\(xs.map (·.1)).Nodup
 | .dE es ep=>es.length <= sizeLine /\ (a == sysModules)=false /\ ∃ xs:Ab (Ab Key × Af × Ad),Paired (fun (p:Ab Key × Af × V) (q:Ab Key × Af × Ad)=>p.1=q.1 /\ p.2.1=q.2.1 /\ RelV p.2.2 q.2.2) es xs /\
   ∃o es',h.get? a=some o/\o.ExactDict/\o.data=.dict es' ep/\es'.toList=xs.map (entryOfKey (tupleKind (dI P w)))/\(xs.map (·.1)).Nodup
 | .cod q=>h.CodeRec (.ref a) q
 | .set S n=>h.SetOf (intKind P w) a S n
 | .ins C dx fs=>H dx=some (.own a) /\ fs.length <= 1000 /\ dx ≠ a /\ h.get? a=some (PySem.W.instObj C dx) /\
   ∃mA,h.Ns1 dx mA/\(∀f,RelO (fs.lookup f) (mA f))/\PySem.Within mA (fs.map (·.1))
 | .own _=>∃o,h.get? a=some o
 | .xd fs=>∃mA,h.Ns1 a mA/\∀f,RelO (fs.lookup f) (mA f)
 | .rng lo hi=>∃t u v,h.get? a=some { cls:=.type "range",data:=.fields #[.int lo t,.int hi u,.int 1 v] }
 | .frz o u=>h.get? a=some o/\ObjOk H h a u
 | .tbl ps=>∃pv:Ae Ad,h.get? a=some { cls:=.none,data:=.fields pv }/\TriplesOk pv.toList/\∀p,ps[0]?=some p->codeAmong p.1 pv.toList=none\/∃c oc,codeAmong p.1 pv.toList=some (.ref c)/\H c=some (.frz oc (.cod p.2))
 | .met f x=>h.get? a=some (PySem.W.methodObj (.ref f) (.ref x))
 | .ext φ=>φ h/\(∃o,h.get? a=some o)/\∀h1 h2:Ah,φ h1->(∀o,h1.get? a=some o->h2.get? a=some o)->φ h2
def HOk(H:Hp)(h:Ah):Prop:=∀a o,H a=some o->ObjOk P w H h a o
end
section
variable {P:Aj}{w:Ak}{H H':Hp}{h h':Ah}{a:Af}{o:HO}
theorem ObjOk.lt(x:ObjOk P w H h a o):a<h.objs.size:=by
 cases o with
 |lst xs=>obtain⟨_,_,_,_,e⟩:=x;exact Qal e
 |tup xs=>obtain⟨_,_,_,p⟩:=x;exact p.lt
 |dK kvs=>obtain⟨_,_,_,_,o,_,_,e,_⟩:=x;exact Qal e
 |dT kvs=>obtain⟨_,_,_,_,o,_,_,e,_⟩:=x;exact Qal e
 |dE es ep=>obtain⟨_,_,_,_,o,_,e,_⟩:=x;exact Qal e
 |cod q=>obtain⟨c,o,_,_,z,e,_⟩:=x;cases z;exact Qal e
 |set S n=>obtain⟨o,_,_,_,e,_⟩:=x;exact Qal e
 |ins C dx fs=>obtain⟨_,_,_,e,_⟩:=x;exact Qal e
 |own y=>obtain⟨_,e⟩:=x;exact Qal e
 |xd fs=>obtain⟨_,⟨_,_,_,e,_⟩,_⟩:=x;exact Qal e
 |rng lo hi=>obtain⟨_,_,_,e⟩:=x;exact Qal e
 |frz ob u=>obtain⟨e,_⟩:=x;exact Qal e
 |tbl ps=>obtain⟨_,e,_⟩:=x;exact Qal e
 |met f y=>exact Qal (show h.get? a=some _ from x)
 |ext φ=>obtain⟨_,⟨_,e⟩,_⟩:=x;exact Qal e
theorem Paired.mapP:∀{e:Ab α}{l₂:Ab β},Paired F e l₂->(∀a b,F a b->G a b)->Paired G e l₂
 |_,_,.nil,_=>.nil
 |_,_,.cons r t,f=>.cons (f _ _ r) (Paired.mapP t f)
def ObjOk.stay(x:ObjOk P w H h a o)(k:∀b u,(b=a\/H b=some (.own a))->h.get? b=some u->h'.get? b=some u)
  (G:∀b,H b=some (.own a)->H' b=some (.own a)) (B:∀b xs,H b=some (.tup xs)->H' b=some (.tup xs))
  (A:∀b o q,H b=some (.frz o (.cod q))->H' b=some (.frz o (.cod q)):=by intro b o q r;first|exact r|(rw[aY (bO r (by assumption))];exact r)|(rw[aY (λz=>by subst z;simp_all[Mut])];exact r)|(rw[aY (λz=>by rw[z]at r;simp_all)];exact r)):ObjOk P w H' h' a o:=by
 induction o with
 |lst xs=>obtain⟨z,its,n,r,e⟩:=x;exact⟨z,its,n,r,k _ _ (.inl rfl) e⟩
 |tup xs=>obtain⟨z,its,r,i,e,c⟩:=x;exact⟨z,its,r,i,k _ _ (.inl rfl) e,c⟩
 |dK kvs=>obtain⟨z,y,vs,r,i,es,ep,e,c⟩:=x;exact⟨z,y,vs,r,i,es,ep,k _ _ (.inl rfl) e,c⟩
 |dT kvs =>
  obtain⟨z,y,xs,r,i,es,ep,e,c⟩:=x;exact⟨z,y,xs,Paired.mapP r λp q z=>⟨z.1,B _ _ z.2.1,z.2.2⟩,i,es,ep,k _ _ (.inl rfl) e,c⟩
 |dE es ep=>obtain⟨z,y,xs,r,i,es,e,c⟩:=x;exact⟨z,y,xs,r,i,es,k _ _ (.inl rfl) e,c⟩
 |cod q=>obtain⟨c,o,vs,t,z,e,r⟩:=x;cases z;exact⟨_,o,vs,t,rfl,k _ _ (.inl rfl) e,r⟩
 |set S n=>obtain⟨i,es,ep,t,e,c⟩:=x;exact⟨i,es,ep,t,k _ _ (.inl rfl) e,c⟩
 |ins C dx fs =>
  obtain⟨d,z,E,e,mA,⟨j,es,ep,l,c⟩,r⟩:=x;exact⟨G _ d,z,E,k _ _ (.inl rfl) e,mA,⟨j,es,ep,k _ _ (.inr d) l,c⟩,r⟩
 |own y=>obtain⟨i,e⟩:=x;exact⟨i,k _ _ (.inl rfl) e⟩
 |xd fs=>obtain⟨mA,⟨j,es,ep,e,c⟩,r⟩:=x;exact⟨mA,⟨j,es,ep,k _ _ (.inl rfl) e,c⟩,r⟩
 |rng lo hi=>obtain⟨t,u,v,e⟩:=x;exact⟨t,u,v,k _ _ (.inl rfl) e⟩
 |frz i u ih=>obtain⟨e,q⟩:=x;exact⟨k _ _ (.inl rfl) e,ih q⟩
 |tbl ps=>obtain⟨pv,e,t,c⟩:=x;exact⟨pv,k _ _ (.inl rfl) e,t,λp hp=>(c p hp).imp id λ⟨c,I,F,l⟩=>⟨c,I,F,A _ _ _ l⟩⟩
 |met f y =>
  have e:h.get? a=some (PySem.W.methodObj (.ref f) (.ref y)):=x;show h'.get? a=some (PySem.W.methodObj (.ref f) (.ref y));exact k a _ (.inl rfl) e
 |ext φ=>obtain⟨p,⟨o,e⟩,st⟩:=x;exact⟨st _ _ p λo q=>k _ _ (.inl rfl) q,⟨o,k _ _ (.inl rfl) e⟩,st⟩
theorem HOk.lt(x:HOk P w H h)(e:H a=some o):a<h.objs.size:=(x a o e).lt
def HOk.fresh(x:HOk P w H h)(e:h.objs.size<=a):H a=none:=by
 cases q:H a with
 |none=>rfl
 |some u=>exact absurd (QaJ (x.lt q) e) (Qbg _)
def HOk.kept(x:HOk P w H h)(k:∀b u,h.get? b=some u->h'.get? b=some u):HOk P w H h':=λa o e =>
 (x a o e).stay (λb u _ q=>k b u q) (λ_ q=>q) λ_ _ q=>q
def HOk.laid(x:HOk P w H h)(k:∀b u,h.get? b=some u->h'.get? b=some u)(hp:h.objs.size<=a)(j:ObjOk P w (upd H a o) h' a o):HOk P w (upd H a o) h':=λb u e=>by
 have f:=x.fresh hp;by_cases i:b=a
 .subst i;rw[bG]at e;cases e;exact j
 .rw[aY i]at e;exact(x b u e).stay (λc v _ q=>k c v q) (λc q=>by rw[aY (bO q f)];exact q) λc xs q=>by rw[aY (bO q f)];exact q
end
def Rd(H:Hp)(a:Af)(u:HO):Prop:=H a=some u\/∃o,H a=some (.frz o u)
def Rd.ok(r:Rd H a u)(x:HOk P w H h):ObjOk P w H h a u:=by
 rcases r with r|⟨o,r⟩
 .exact x a u r
 .obtain⟨_,q⟩:=x a _ r;exact q
def Mut:Aa HO->Prop
 |some (.lst _)=>True
 |some (.dK _)=>True
 |some (.dT _)=>True
 |some (.dE _ _)=>True
 |some (.set _ _)=>True
 |some (.ins _ _ _)=>True
 |some (.ext _)=>True
 |_=>False
section
variable {P:Aj}{w:Ak}{H:Hp}{h h':Ah}{x e:Af}{o':HO}
def HOk.write(ok:HOk P w H h)(i:Mut (H x))(he:e=x\/H e=some (.own x))(k:∀b u,b≠e->h.get? b=some u->h'.get? b=some u)(p:∃u,h'.get? e=some u)
  (n:ObjOk P w (upd H x o') h' x o'):HOk P w (upd H x o') h':=λb u q=>by
 have f:∀c y,H c=some (.own y)->c≠x:=λc y r z=>by subst z;rw[r]at i;exact i
 have l:∀c xs,H c=some (.tup xs)->c≠x:=λc xs r z=>by subst z;rw[r]at i;exact i
 by_cases j:b=x
 .subst j;rw[bG]at q;cases q;exact n
 .rw[aY j]at q;by_cases a:b=e
  .have o:H b=some (.own x):=by
    rcases he with z|z
    .exact absurd (a.trans z) j
    .rw[a];exact z
   rw[q]at o;cases o;obtain⟨v,t⟩:=p;exact⟨v,by rw[a];exact t⟩
  .refine(ok b u q).stay (λc v hc r=>k c v ?_ r) (λc r=>by rw[aY (f c b r)];exact r) λc xs r=>by rw[aY (l c xs r)];exact r
   rcases hc with rfl|hc
   .exact a
   .rintro rfl;rcases he with z|z
    .exact f c b hc z
    .rw[hc]at z;cases z;exact j rfl
end
structure Un(fs ex:List Addr)(H H':Hp)(h h':Heap):Prop where
 keep:∀b o,h.get? b=some o->H b=none->b∉fs->b∉ex->h'.get? b=some o
 slot:∀b o,h.get? b=some o->H b=none->b∈fs->b∉ex->∃sl,h'.get? b=some { o with slots:=sl }
 free:∀b o,h.get? b=some o->H b=none->b∉ex->H' b=none
 there:∀b o,h.get? b=some o->b∉ex->∃o',h'.get? b=some o'
 tups:∀b xs,H b=some (.tup xs)->H' b=some (.tup xs)
 frzs:∀b o u,H b=some (.frz o u)->H' b=some (.frz o u)
 tbls:∀b ps,H b=some (.tbl ps)->∃more,H' b=some (.tbl (ps++more))
section
variable {fs ex:Ab Af}{H H1:Hp}{h h1 h':Ah}{a x e:Af}{o:HO}
def Un.any(u:Un fs ex H H1 h h1){b:Af}{a:Obj}(q:h.get? b=some a)(n:H b=none)(f:b∉ex):∃sl,h1.get? b=some { a with slots:=sl }:=by
 by_cases e:b∈fs
 .exact u.slot b a q n e f
 .exact⟨a.slots,u.keep b a q n e f⟩
def Un.kept(k:∀b u,h.get? b=some u->h'.get? b=some u):Un fs ex H H h h' :=
 ⟨λb ob q _ _ _=>k b ob q,λb ob q _ _ _=>⟨ob.slots,k b ob q⟩,λ_ _ _ n _=>n,λb ob q _=>⟨ob,k b ob q⟩,λ_ _ q=>q,λ_ _ _ q=>q,λ_ ps q=>⟨#[],by rw[q];simp⟩⟩
def Un.refl:Un fs ex H H h h:=Un.kept λ_ _ q=>q
def Un.laid(k:∀b u,h.get? b=some u->h'.get? b=some u)(hp:h.objs.size<=a)(e:H a=none):Un fs ex H (upd H a o) h h' where
 keep:=λb u q _ _ _=>k b u q
 slot:=λb u q _ _ _=>⟨u.slots,k b u q⟩
 free:=λb u q n _=>by rw[aY (QaM (QaJ (Qal q) hp))];exact n
 there:=λb u q _=>⟨u,k b u q⟩
 tups:=λb xs q=>by rw[aY (bO q e)];exact q
 frzs:=λb u xs q=>by rw[aY (bO q e)];exact q
 tbls:=λb ps q=>⟨#[],by rw[aY (bO q e),q];simp⟩
def Un.write(a:Mut (H x))(he:e=x\/H e=some (.own x))(k:∀b u,b≠e->h.get? b=some u->h'.get? b=some u)(p:∃u,h'.get? e=some u):Un fs ex H (upd H x o) h h':=by
 have j:∀b,H b=none->b≠x:=λb n z=>by subst z;rw[n]at a;exact a
 have l:∀b,H b=none->b≠e:=λb n z=>by
  subst z;rcases he with r|r
  .exact j b n r
  .rw[n]at r;cases r
 have i:∀b u,H b=some u->¬Mut (some u)->b≠x:=λb u q nm z=>by subst z;rw[q]at a;exact nm a
 refine⟨λb u q n _ _=>k b u (l b n) q,λb u q n _ _=>⟨u.slots,k b u (l b n) q⟩,λb u q n _=>by rw[aY (j b n)];exact n,λb u q _=>?_,
  λb xs q=>by rw[aY (i b _ q λz=>z)];exact q,λb u xs q=>by rw[aY (i b _ q λz=>z)];exact q,λb ps q=>⟨#[],by rw[aY (i b _ q λz=>z),q];simp⟩⟩
 by_cases f:b=e
 .subst f;exact p
 .exact⟨u,k b u f q⟩
end
def trk(h:Ah)(H:Hp):Ab Af:=(List.range h.objs.size).filter λa=>(H a).isSome
def P1(h:Ah)(H:Hp):Ah:=PySem.W.hideAll h (trk h H)
def Z41(h:Ah)(H:Hp):(P1 h H).objs.size=h.objs.size:=PySem.W.hideAll_size _ _
def Z6l(e:h.get? b=some o)(n:H b=none):(P1 h H).get? b=some o :=
 PySem.W.hideAll_get _ e λa=>by
  have q:(H b).isSome=true:=(QbF.mp a).2;rw[n]at q;simp at q
def Z89(e:(P1 h H).get? b=some o):h.get? b=some o/\H b=none:=by
 have a:h.get? b=some o:=PySem.W.of_hideAll (trk h H) e;refine⟨a,?_⟩;cases q:H b with
 |none=>rfl
 |some x =>
  have f:b∈trk h H:=QbF.mpr ⟨Qbn.mpr (Qal a),by simp[q]⟩;have z:(P1 h H).get? b=none:=PySem.W.hideAll_none (trk h H) f;rw[z]at e;cases e
structure Mod(K:Frag)(mg:Str->Option Value)(base:Heap):Prop where
 kin:K.In base
 glob:base.Ns mainGlobals mg
 blt:∃mb,base.Ns builtinsNs mb/\∀x:Str,x ≠ "__name__" -> mb x=bootBuiltins x
 nolimit:base.NoLimit
structure Cx where
 prog:Aj
 w:Ak
 K:Frag
 mg:Str->Aa Ad
 base:Ah
 A:Ai
 N:Ab Str
 s₀:Ac
 H₀:Hp
 env:Env
 outer:Ab Env
 stack:Ab Env
 ex:Ab Af
 fn:Str->Bool
 calm:Bool
 pn:Ab (Af×Obj)
 xe:Ad->Ac->Prop
def frs(l:Ab Env):Ab Af:=l.filterMap (·.frame)
abbrev Cx.fs(X:Cx):Ab Af:=frs X.outer
def Vis(sc:Scope)(x:Str):Prop:=sc.names.lookup x=some .local\/sc.names.lookup x=some .cell\/sc.names.lookup x=some .free
def Loc(sc:Scope)(x:Str):Prop:=sc.names.lookup x=some .local\/sc.names.lookup x=some .cell
def Zch(env:Env)(h:Ah)(m:Str->Aa Ad)(x:Str)(u:Ad):Prop :=
 (env.kindOf x=some .local/\m x=some u)\/((env.kindOf x=some .cell\/env.kindOf x=some .free)/\∃c,env.cells.lookup x=some c/\h.IsCell c (some u))
structure Cx.Ok(X:Cx):Prop where
 mod:Mod X.K X.mg X.base
 kind:X.env.scope.kind=.function
 glob:X.env.globals=mainGlobals
 blt:X.env.builtins=builtinsNs
 above:X.s₀.heap.objs.size<=X.env.locals
 inj:∀x y c,X.env.cells.lookup x=some c->X.env.cells.lookup y=some c->x=y
 has:∀x,(X.env.kindOf x=some .cell\/X.env.kindOf x=some .free)->∃c,X.env.cells.lookup x=some c
 cab:∀x c,X.fn x=true->X.env.cells.lookup x=some c->X.s₀.heap.objs.size<=c
 hd:X.calm=true->X.A.handled=none
 frames:X.A.frames=some X.stack
 stk:X.stack=X.outer\/(X.stack=X.env::X.outer/\X.env.frame=some X.env.locals)
 exf:∀b∈X.ex,b≠X.env.locals/\∀x c,X.env.cells.lookup x=some c->c≠b
 bs:∀b o,X.base.get? b=some o->X.s₀.heap.get? b=some o/\X.H₀ b=none
 bsz:X.base.objs.size<=X.s₀.heap.objs.size
 noex:∀b o,X.base.get? b=some o->b∉X.ex
 exfs:∀b∈X.ex,b∉X.fs
 funs:X.s₀.heap.FunFrames X.base X.outer
 frf:∀b∈X.fs,X.H₀ b=none
structure Inv(X:Cx)(pins:List (Addr×Obj))(σ:List (Option V))(H:Hp)(s:Shared):Prop where
 ok:X.Ok
 os:s.os=X.s₀.os
 bare:AllBare s.gens
 base:Un X.fs X.ex X.H₀ H X.s₀.heap s.heap
 loc:∃m,s.heap.Ns X.env.locals m/\∀(i:Nat) (x:Str) (v:V),X.N[i]?=some x->σ[i]?=some (some v)->Vis X.env.scope x->∃u,RelV v u/\Zch X.env s.heap m x u
 cell:∀x c,X.env.cells.lookup x=some c->∃v,s.heap.IsCell c v
 free:H X.env.locals=none
 freeC:∀x c,X.env.cells.lookup x=some c->H c=none
 pin:∀p∈X.pn++pins,s.heap.get? p.1=some p.2/\H p.1=none/\p.1≠X.env.locals/\p.1∉X.fs/\∀v,p.2.data ≠ .cell v
 hok:HOk X.prog X.w H s.heap
 len:σ.length=X.N.length
section
variable {X:Cx}{pins:Ab (Af×Obj)}{σ:Ab (Aa V)}{H H':Hp}{s:Ac}{h':Ah}
def Cx.Ok.nofr(ok:X.Ok){b:Af}{o:Obj}(e:X.base.get? b=some o):b∉X.fs:=λa=>by
 have:=(ok.funs.mem a).1;rw[e]at this;cases this
theorem Inv.bs(I:Inv X pins σ H s):∀b o,X.base.get? b=some o->s.heap.get? b=some o/\H b=none:=λb o e =>
 ⟨I.base.keep b o (I.ok.bs b o e).1 (I.ok.bs b o e).2 (I.ok.nofr e) (I.ok.noex b o e),I.base.free b o (I.ok.bs b o e).1 (I.ok.bs b o e).2 (I.ok.noex b o e)⟩
def Inv.bk(I:Inv X pins σ H s):∀b o,X.base.get? b=some o->s.heap.get? b=some o:=λb o e=>(I.bs b o e).1
theorem Inv.mod(I:Inv X pins σ H s):Mod X.K X.mg X.base:=I.ok.mod
def Inv.kIn(I:Inv X pins σ H s):X.K.In s.heap:=I.ok.mod.kin.keeps I.bk
theorem Inv.lt(I:Inv X pins σ H s):X.env.locals<s.heap.objs.size:=let ⟨_,hn,_⟩:=I.loc;hn.lt
def Inv.sz(I:Inv X pins σ H s):X.s₀.heap.objs.size<=s.heap.objs.size:=QaC I.ok.above (Qbe I.lt)
def Inv.nofs(I:Inv X pins σ H s){a:Af}(h:s.heap.objs.size<=a):a∉X.fs:=λb=>by
 obtain⟨_,o,e,_⟩:=I.ok.funs.mem b;exact absurd (QaJ (Qal e) (QaC I.sz h)) (Qbg _)
def Inv.cne(I:Inv X pins σ H s):∀x c,X.env.cells.lookup x=some c->c≠X.env.locals:=λx c e z=>by
 obtain⟨v,o,f,hd⟩:=I.cell x c e;obtain⟨m,⟨o',es,ep,a,b,_⟩,_⟩:=I.loc;rw[z,a]at f;cases f;rw[b]at hd;cases hd
theorem Inv.funs(I:Inv X pins σ H s):s.heap.FunFrames X.base X.outer:=by
 have all:∀(l:Ab Env),(∀b∈frs l,b∈X.fs)->X.s₀.heap.FunFrames X.base l->s.heap.FunFrames X.base l:=by
  intro l
  induction l with
  |nil=>intro _ _;trivial
  |cons env r ih =>
   intro hs j;obtain⟨p,⟨L,o,a,i,h,hd⟩,n⟩:=j;have f:L∈X.fs:=hs L (by unfold frs;rw[List.filterMap_cons,a];exact Qah);obtain⟨q,e⟩:=I.base.slot L o h (I.ok.frf L f) f λz=>I.ok.exfs L z f;exact⟨p,⟨L,_,a,i,e,hd⟩,ih (λb hb=>hs b (by unfold frs;rw[List.filterMap_cons,a];exact Qab _ hb)) n⟩
 exact all X.outer (λ_ hb=>hb) I.ok.funs
theorem Inv.stack(I:Inv X pins σ H s):s.heap.FunFrames X.base X.stack:=by
 rcases I.ok.stk with e|⟨e,hf⟩
 .rw[e];exact I.funs
 .rw[e];obtain⟨m,a,_⟩:=I.loc;refine .cons (by rw[I.ok.kind];decide) hf a ?_ I.funs;exact Heap.get?_none_of_le (QaC I.ok.bsz I.ok.above)
def Inv.stkSub(I:Inv X pins σ H s):∀b∈frs X.stack,b∈X.env.locals::X.fs:=λb hb=>by
 rcases I.ok.stk with e|⟨e,hf⟩
 .rw[e]at hb;exact Qab _ hb
 .rw[e]at hb;unfold frs at hb;rw[List.filterMap_cons,hf]at hb;exact hb
def Inv.stkFree(I:Inv X pins σ H s):∀b∈frs X.stack,H b=none:=λb hb=>by
 rcases Qad.mp (I.stkSub b hb)with e|hb
 .rw[e];exact I.free
 .obtain⟨_,o,a,_⟩:=I.ok.funs.mem hb;exact I.base.free b o a (I.ok.frf b hb) λz=>I.ok.exfs b z hb
def Inv.step{g':Ae GenState}{t':Nat}{d':Drawn}{ch:Ab Af}(I:Inv X pins σ H s)
  (f:∀b∈ch,(b∈X.ex\/X.s₀.heap.objs.size<=b)/\b≠X.env.locals/\(∀x c,X.env.cells.lookup x=some c->c≠b)/\∀p∈X.pn++pins,p.1≠b)
  (keep:∀b o,b≠X.env.locals->b∉X.fs->b∉ch->s.heap.get? b=some o->H b=none->h'.get? b=some o)
  (A:∀b o,b≠X.env.locals->b∈X.fs->b∉ch->s.heap.get? b=some o->H b=none->∃G,h'.get? b=some { o with slots:=G }) (free:∀b o,b∉ch->s.heap.get? b=some o->H b=none->H' b=none)
  (C:∀b o,b∉ch->s.heap.get? b=some o->∃o',h'.get? b=some o')
  (F:∀b xs,H b=some (.tup xs)->H' b=some (.tup xs)) (K:∀b o u,H b=some (.frz o u)->H' b=some (.frz o u)) (J:∀b ps,H b=some (.tbl ps)->∃more,H' b=some (.tbl (ps++more)))
  (ns:∀m,s.heap.Ns X.env.locals m->h'.Ns X.env.locals m) (M:HOk X.prog X.w H' h') (Q:AllBare g') :
  Inv X pins σ H' { s with heap:=h',gens:=g',drawn:=d',toks:=t' }:=by
 have E:∀b o,X.s₀.heap.get? b=some o->b≠X.env.locals:=λb o e=>QaM (QaJ (Qal e) I.ok.above);have t:∀b o,X.s₀.heap.get? b=some o->b∉X.ex->b∉ch:=λb o e hx hb=>by
  rcases (f b hb).1 with z|z
  .exact hx z
  .exact absurd (QaJ (Qal e) z) (Qbg _)
 have j:∀x c,X.env.cells.lookup x=some c->∀v,s.heap.IsCell c v->h'.IsCell c v:=λx c e v ⟨o,y,hd⟩=>by
  have h:c∉ch:=λz=>(f c z).2.2.1 x c e rfl;by_cases hc:c∈X.fs
  .obtain⟨G,q⟩:=A c o (I.cne x c e) hc h y (I.freeC x c e);exact⟨_,q,hd⟩
  .exact⟨o,keep c o (I.cne x c e) hc h y (I.freeC x c e),hd⟩
 refine⟨I.ok,I.os,Q,⟨λb o e n hb hx=>?_,λb o e n hb hx=>?_,λb o e n hx=>?_,λb o e hx=>?_,λb xs e=>F b xs (I.base.tups b xs e),λb o xs e=>K b o xs (I.base.frzs b o xs e),λb ps e=>?_⟩,?_,λx c e=>?_,?_,λx c e=>?_,λp hp=>?_,M,I.len⟩
 .exact keep b o (E b o e) hb (t b o e hx) (I.base.keep b o e n hb hx) (I.base.free b o e n hx)
 .obtain⟨G,a⟩:=I.base.slot b o e n hb hx;obtain⟨L,B⟩:=A b _ (E b o e) hb (t b o e hx) a (I.base.free b o e n hx);exact⟨L,B⟩
 .obtain⟨o',a⟩:=I.base.there b o e hx;exact free b o' (t b o e hx) a (I.base.free b o e n hx)
 .obtain⟨o',a⟩:=I.base.there b o e hx;exact C b o' (t b o e hx) a
 .obtain⟨m1,a⟩:=I.base.tbls b ps e;obtain⟨m2,B⟩:=J b _ a;exact⟨m1++m2,by rw[B,Array.append_assoc]⟩
 .obtain⟨m,R,P⟩:=I.loc;refine⟨m,ns m R,λi x v a B e3=>?_⟩;obtain⟨u,r,l⟩:=P i x v a B e3;refine⟨u,r,?_⟩;rcases l with l|⟨k,c,e,z⟩
  .exact .inl l
  .exact .inr ⟨k,c,e,j x c e _ z⟩
 .obtain⟨v,z⟩:=I.cell x c e;exact⟨v,j x c e v z⟩
 .obtain⟨m,⟨o,_,_,y,_⟩,_⟩:=I.loc;exact free _ o (λz=>(f _ z).2.1 rfl) y I.free
 .obtain⟨v,o,y,hd⟩:=I.cell x c e;exact free c o (λz=>(f c z).2.2.1 x c e rfl) y (I.freeC x c e)
 .obtain⟨e,n,N,O,d⟩:=I.pin p hp;have h:p.1∉ch:=λz=>(f p.1 z).2.2.2 p hp rfl;exact⟨keep p.1 p.2 N O h e n,free p.1 p.2 h e n,N,O,d⟩
def Inv.un{t':Nat}(I:Inv X pins σ H s)(u:Un X.fs [] H H' s.heap h')(f:HOk X.prog X.w H' h'):Inv X pins σ H' { s with heap:=h',toks:=t' }:=by
 obtain⟨m,⟨o,es,ep,i,r⟩,_⟩:=id I.loc;obtain⟨q,l⟩:=u.any i I.free (by simp);exact I.step (g':=s.gens) (d':=s.drawn) (ch:=[]) (λ_ z=>nomatch z) (λb o _ hb _ e n=>u.keep b o e n hb (by simp)) (λb o _ hb _ e n=>u.slot b o e n hb (by simp)) (λb o _ e n=>u.free b o e n (by simp)) (λb o _ e=>u.there b o e (by simp)) u.tups u.frzs u.tbls (λm' hm=>by
  obtain⟨o',j,h,a,p⟩:=hm;rw[i]at a;cases a;exact⟨_,j,h,l,p⟩) f I.bare
def Inv.call{g':Ae GenState}{t':Nat}{d':Drawn}{ch:Ab Af}(I:Inv X pins σ H s)(u:Un (frs X.stack) ch H H' s.heap h')(i:HOk X.prog X.w H' h')(v:AllBare g')
  (a:∀b∈ch,(b∈X.ex\/X.s₀.heap.objs.size<=b)/\b≠X.env.locals/\(∀x c,X.env.cells.lookup x=some c->c≠b)/\∀p∈X.pn++pins,p.1≠b) :
  Inv X pins σ H' { s with heap:=h',gens:=g',drawn:=d',toks:=t' }:=by
 obtain⟨m,⟨o,es,ep,l,r⟩,_⟩:=id I.loc;obtain⟨y,h⟩:=u.any l I.free λz=>(a _ z).2.1 rfl;exact I.step (ch:=ch) a (λb o h hb hc e n=>u.keep b o e n (λz=>(Qad.mp (I.stkSub b z)).elim h hb) hc) (λb o _ _ hc e n=>u.any e n hc) (λb o hc e n=>u.free b o e n hc) (λb o hc e=>u.there b o e hc) u.tups u.frzs u.tbls (λm' hm=>by
  obtain⟨o',j,q,f,t⟩:=hm;rw[l]at f;cases f;exact⟨_,j,q,h,t⟩) i v
def Inv.turned{t':Nat}{it:Af}(I:Inv X pins σ H s)(k:∀b o,b≠it->s.heap.get? b=some o->h'.get? b=some o)(j:H it=none)(f:it≠X.env.locals)
  (h1:it∈X.ex\/X.s₀.heap.objs.size<=it) (i:∀x c,X.env.cells.lookup x=some c->c≠it) (l:∀p∈X.pn++pins,p.1≠it):Inv X pins σ H { s with heap:=h',toks:=t' }:=by
 have a:∀b u,H b=some u->b≠it:=λb u e z=>by rw[z,j]at e;cases e
 refine I.step (g':=s.gens) (d':=s.drawn) (ch:=[it]) (λb hb=>?_) (λb o _ _ hc e _=>k b o (λz=>hc (by simp[z])) e) (λb o _ _ hc e _=>⟨o.slots,k b o (λz=>hc (by simp[z])) e⟩) (λ_ _ _ _ n=>n)
  (λb o hc e=>⟨o,k b o (λz=>hc (by simp[z])) e⟩) (λ_ _ e=>e) (λ_ _ _ e=>e) (λb ps e=>⟨#[],by rw[e];simp⟩) (λm hm=>?_) (λb u e=>?_) I.bare
 .have e:b=it:=by simpa using hb
  subst e;exact⟨h1,f,i,l⟩
 .obtain⟨o,es,ep,h,r⟩:=hm;exact⟨o,es,ep,k _ o (Ne.symm f) h,r⟩
 .refine(I.hok b u e).stay (λc v hc q=>k c v ?_ q) (λ_ q=>q) λ_ _ q=>q;rcases hc with z|z
  .rw[z];exact a b u e
  .exact a c _ z
def Inv.tok(I:Inv X pins σ H s)(t:Nat):Inv X pins σ H { s with toks:=t }:=I.un (h':=s.heap) (t':=t) Un.refl I.hok
theorem Inv.kept(I:Inv X pins σ H s)(k:∀b u,s.heap.get? b=some u->h'.get? b=some u):Inv X pins σ H { s with heap:=h',toks:=t' }:=I.un (Un.kept k) (I.hok.kept k)
theorem Inv.laid(I:Inv X pins σ H s)(k:∀b u,s.heap.get? b=some u->h'.get? b=some u)(hp:s.heap.objs.size<=a)(e:ObjOk X.prog X.w (upd H a o) h' a o) :
  Inv X pins σ (upd H a o) { s with heap:=h',toks:=t' }:=I.un (Un.laid k hp (I.hok.fresh hp)) (I.hok.laid k hp e)
theorem Inv.write(I:Inv X pins σ H s)(f:Mut (H x))(he:e=x\/H e=some (.own x))(k:∀b u,b≠e->s.heap.get? b=some u->h'.get? b=some u)(a:∃u,h'.get? e=some u)
  (h:ObjOk X.prog X.w (upd H x o) h' x o):Inv X pins σ (upd H x o) { s with heap:=h',toks:=t' }:=I.un (Un.write f he k a) (I.hok.write f he k a h)
def Inv.weak(I:Inv X pins σ H s)(a:σ'.length=σ.length)(w:∀(i:Nat) v,σ'[i]?=some (some v)->σ[i]?=some (some v)):Inv X pins σ' H s :=
 ⟨I.ok,I.os,I.bare,I.base,let ⟨m,hn,hl'⟩:=I.loc;⟨m,hn,λi x v e1 e2 e3=>hl' i x v e1 (w i v e2) e3⟩,I.cell,I.free,I.freeC,I.pin,I.hok,a.trans I.len⟩
def Inv.pins_of(I:Inv X pins σ H s)(h:∀p∈pins',s.heap.get? p.1=some p.2/\H p.1=none/\p.1≠X.env.locals/\p.1∉X.fs/\∀v,p.2.data ≠ .cell v):Inv X pins' σ H s :=
 ⟨I.ok,I.os,I.bare,I.base,I.loc,I.cell,I.free,I.freeC,λp hp=>(Qai.mp hp).elim (λz=>I.pin p (Qaq _ z)) (h p),I.hok,I.len⟩
def Y4{N:Ab Str}(e:N.Nodup){i j:Nat}{x:Str}(a:N[i]?=some x)(b:N[j]?=some x):i=j:=by
 obtain⟨h1,f⟩:=Qae.mp a;obtain⟨l,h⟩:=Qae.mp b;exact(List.getElem_inj e).mp (f.trans h.symm)
def C9(I:Inv X pins σ H s)(hN:X.N.Nodup)(hi:X.N[i]?=some x)(l:Loc X.env.scope x)(r:RelV v u)
  (h:∀s',Inv X pins (σ.set i (some v)) H s'->(∃a,Heap.SameBut a s.heap s'.heap/\(a=X.env.locals\/X.env.cells.lookup x=some a))->Q () s') (hf:X.fn x=true\/X.env.scope.names.lookup x=some .local:=by first|exact .inl rfl|exact .inr rfl|assumption):wpAny M A (storeName X.env x u) Q E s:=by
 obtain⟨m,T,Y⟩:=id I.loc;have O:(X.env.scope.kind == .class||(X.env.scope.kind == .module&&X.env.locals != X.env.globals))=false:=by rw[I.ok.kind];rfl
 have G:i<σ.length:=by rw[I.len];exact(Qae.mp hi).1
 have cne:=I.cne;have t:∀{a:Af}{h':Ah},(∃o,s.heap.get? a=some o/\H a=none)->Heap.SameBut a s.heap h'->HOk X.prog X.w H h':=λ{a h'} ha hs b ob e=>by
  obtain⟨_,_,C⟩:=ha;refine(I.hok b ob e).stay (λc w' hc q=>(hs.2 c ?_).trans q) (λ_ q=>q) λ_ _ q=>q;rintro rfl;rcases hc with rfl|hc
  .rw[C]at e;cases e
  .rw[C]at hc;cases hc
 rcases l with hk|hk
 .refine wpAny_storeName_local hk T (λh' hn' hs=>?_) O;obtain⟨oL,_,_,hoL,_⟩:=id T;refine h _ ⟨I.ok,I.os,I.bare,⟨λb o e n hb l=>?_,λb o e n hb l=>?_,I.base.free,λb o e l=>?_,I.base.tups,I.base.frzs,I.base.tbls⟩,⟨_,hn',λj y v' f e2 e3=>?_⟩,λy c e=>?_,I.free,I.freeC,λp hp=>?_,t ⟨oL,hoL,I.free⟩ hs,by simpa using I.len⟩ ⟨_,hs,.inl rfl⟩
  .exact(hs.2 b (QaM (QaJ (Qal e) I.ok.above))).trans (I.base.keep b o e n hb l)
  .obtain⟨R,f⟩:=I.base.slot b o e n hb l;exact⟨R,(hs.2 b (QaM (QaJ (Qal e) I.ok.above))).trans f⟩
  .obtain⟨o',f⟩:=I.base.there b o e l;exact⟨o',(hs.2 b (QaM (QaJ (Qal e) I.ok.above))).trans f⟩
  .by_cases B:j=i
   .subst B;rw[hi]at f;cases f;rw[QaQ G]at e2;cases e2;exact⟨u,r,.inl ⟨hk,by simp⟩⟩
   .rw[Qar (Ne.symm B)]at e2;obtain⟨S,P,q⟩:=Y j y v' f e2 e3;refine⟨S,P,?_⟩;rcases q with⟨k,e⟩|⟨k,c,e,z⟩
    .refine .inl ⟨k,?_⟩;have:y≠x:=λe=>B (Y4 hN f (e ▸ hi));simp[this,e]
    .exact .inr ⟨k,c,e,z.sameBut hs (cne y c e)⟩
  .obtain⟨w',z⟩:=I.cell y c e;exact⟨w',z.sameBut hs (cne y c e)⟩
  .obtain⟨e,n,J,U,d⟩:=I.pin p hp;exact⟨(hs.2 p.1 J).trans e,n,J,U,d⟩
 .have F:X.fn x=true:=by
   rcases hf with z|z
   .exact z
   .rw[z]at hk;cases hk
  obtain⟨c,hc⟩:=I.ok.has x (.inl hk);obtain⟨w',z⟩:=I.cell x c hc;refine wpAny_storeName_cell I.ok.kind hk hc z (λh' hc' hs=>?_);obtain⟨Z,K,W⟩:=id z;refine h { s with heap:=h' } ⟨I.ok,I.os,I.bare,⟨λb o e n hb l=>?_,λb o e n hb l=>?_,I.base.free,λb o e l=>?_,I.base.tups,I.base.frzs,I.base.tbls⟩,⟨m,T.sameBut hs (Ne.symm (cne x c hc)),λj y v' f e2 e3=>?_⟩,λy c' e=>?_,I.free,I.freeC,λp hp=>?_,t ⟨Z,K,I.freeC x c hc⟩ hs,by simpa using I.len⟩ ⟨c,hs,.inr hc⟩
  .exact(hs.2 b (QaM (QaJ (Qal e) (I.ok.cab x c F hc)))).trans (I.base.keep b o e n hb l)
  .obtain⟨R,f⟩:=I.base.slot b o e n hb l;exact⟨R,(hs.2 b (QaM (QaJ (Qal e) (I.ok.cab x c F hc)))).trans f⟩
  .obtain⟨o',f⟩:=I.base.there b o e l;exact⟨o',(hs.2 b (QaM (QaJ (Qal e) (I.ok.cab x c F hc)))).trans f⟩
  .by_cases B:j=i
   .subst B;rw[hi]at f;cases f;rw[QaQ G]at e2;cases e2;exact⟨u,r,.inr ⟨.inl hk,c,hc,hc'⟩⟩
   .rw[Qar (Ne.symm B)]at e2;obtain⟨S,P,q⟩:=Y j y v' f e2 e3;refine⟨S,P,?_⟩;rcases q with q|⟨k,c',e,z'⟩
    .exact .inl q
    .refine .inr ⟨k,c',e,z'.sameBut hs ?_⟩;rintro rfl;exact B (Y4 hN f (I.ok.inj _ _ _ e hc ▸ hi))
  .by_cases L:c'=c
   .subst L;exact⟨_,hc'⟩
   .obtain⟨w2,z2⟩:=I.cell y c' e;exact⟨w2,z2.sameBut hs L⟩
  .obtain⟨e,n,J,U,d⟩:=I.pin p hp;refine⟨(hs.2 p.1 ?_).trans e,n,J,U,d⟩;intro q;rw[q,K]at e;have q':Z=p.2:=QaI e;exact d w' (by rw[<- q'];exact W)
def xD(I:Inv X pins σ H s)(b:X.N.Nodup)(hi:X.N[i]?=some x)(e:Loc X.env.scope x)(r:RelV v u)
  (h:∀s',Inv X pins (σ.set i (some v)) H s'->Q () s') (a:X.fn x=true\/X.env.scope.names.lookup x=some .local:=by first|exact .inl rfl|exact .inr rfl|assumption):wpAny M A (storeName X.env x u) Q E s :=
 C9 I b hi e r (λs' I' _=>h s' I') a
def Inv.call'(I:Inv X pins σ H s)(i:s'.os=s.os)(u:Un (frs X.stack) ch H H' s.heap s'.heap)(a:HOk X.prog X.w H' s'.heap)(h:AllBare s'.gens)
  (f:∀b∈ch,(b∈X.ex\/X.s₀.heap.objs.size<=b)/\b≠X.env.locals/\(∀x c,X.env.cells.lookup x=some c->c≠b)/\∀p∈X.pn++pins,p.1≠b):Inv X pins σ H' s':=by
 obtain⟨h',g',d',t',o'⟩:=s';have e:o'=s.os:=i;subst e;exact I.call (g':=g') (t':=t') (d':=d') u a h f
end
abbrev XK:=Ad->Aa Af->Hp->Prop
abbrev St:=Ab (Aa V)
abbrev VK:=V->Hp->Prop
abbrev TE:=St->Hp->VK->Prop
abbrev TT:=St->Hp->(Bool->Hp->Prop)->Prop
abbrev TA:=St->Hp->(Ab V->Hp->Prop)->Prop
structure T1 where
 nx:St->Hp->Prop
 rt:VK
 bk:St->Hp->Prop:=λ_ _=>False
 ct:St->Hp->Prop:=λ_ _=>False
abbrev TS:=T1->St->Hp->Prop
def EP(X:Cx)(pins:Ab (Af×Obj))(σ:St)(Q:VK)(u:Ad)(s':Ac):Prop:=∃v H',Inv X pins σ H' s'/\RelV v u/\Q v H'
def TP(X:Cx)(pins:Ab (Af×Obj))(σ:St)(Q:Bool->Hp->Prop)(b:Bool)(s':Ac):Prop:=∃H',Inv X pins σ H' s'/\Q b H'
def AP(X:Cx)(pins:Ab (Af×Obj))(σ:St)(Q:Ab V->Hp->Prop)(us:Ab Ad)(s':Ac):Prop:=∃vs H',Inv X pins σ H' s'/\Vals vs us/\Q vs H'
def SP(X:Cx)(pins:Ab (Af×Obj))(D:T1)(f:Flow)(s':Ac):Prop :=
 match f with
 | .next=>∃σ' H',Inv X pins σ' H' s'/\D.nx σ' H'
 | .brk=>∃σ' H',Inv X pins σ' H' s'/\D.bk σ' H'
 | .cont=>∃σ' H',Inv X pins σ' H' s'/\D.ct σ' H'
 | .ret u=>∃v σ' H',Inv X pins σ' H' s'/\RelV v u/\D.rt v H'
def PE(X:Cx)(e:Ag)(t:TE):Prop :=
 ∀(pins:Ab (Af×Obj)) (s:Ac) (σ:St) (H:Hp) (Q:VK),Inv X pins σ H s->t σ H Q->wpAny (model X.prog X.w) X.A (eval e X.env) (EP X pins σ Q) X.xe s
def PT(X:Cx)(e:Ag)(t:TT):Prop :=
 ∀(pins:Ab (Af×Obj)) (s:Ac) (σ:St) (H:Hp) (Q:Bool->Hp->Prop),Inv X pins σ H s->t σ H Q->wpAny (model X.prog X.w) X.A (isTrue e X.env (eval e X.env)) (TP X pins σ Q) X.xe s
def PW(X:Cx)(e:Ag)(t:TT):Prop :=
 ∀(whole:Sem Ad) (pins:Ab (Af×Obj)) (s:Ac) (σ:St) (H:Hp) (Q:Bool->Hp->Prop),Inv X pins σ H s->t σ H Q->wpAny (model X.prog X.w) X.A (isTrue e X.env whole) (TP X pins σ Q) X.xe s
def PW.pt(h:PW X e t):PT X e t:=h _
def PA(X:Cx)(es:Ab Ag)(t:TA):Prop :=
 ∀(pos:Pos) (pins:Ab (Af×Obj)) (s:Ac) (σ:St) (H:Hp) (Q:Ab V->Hp->Prop),Inv X pins σ H s->t σ H Q->wpAny (model X.prog X.w) X.A (spliced (backTo pos (starEach es X.env))) (AP X pins σ Q) X.xe s
def PS(X:Cx)(st:Stmt)(t:TS):Prop :=
 ∀(pins:Ab (Af×Obj)) (s:Ac) (σ:St) (H:Hp) (D:T1),Inv X pins σ H s->t D σ H->wpAny (model X.prog X.w) X.A (exec st X.env) (SP X pins D) X.xe s
def PSs(X:Cx)(st:Ab Stmt)(t:TS):Prop :=
 ∀(pins:Ab (Af×Obj)) (s:Ac) (σ:St) (H:Hp) (D:T1),Inv X pins σ H s->t D σ H->wpAny (model X.prog X.w) X.A (execs st X.env) (SP X pins D) X.xe s
def thn(h:wpAny M A t Q E s)(b:∀a s,Q a s->Q' a s):wpAny M A t Q' E s:=Rc h b λ_ _ x=>x
section
variable {X:Cx}
def bin(i:PE X a ta)(j:PE X b tb){pins:Ab (Af×Obj)}{s:Ac}{σ:St}{H:Hp}{R:V->V->Hp->Prop}(I:Inv X pins σ H s)(h:ta σ H λx H1=>tb σ H1 λy H2=>R x y H2)
  {α:Type}{Q:α->Ac->Prop}{f:Ad->Ad->Sem α}
  (e:∀v u s2 x y H2,Inv X pins σ H2 s2->RelV x v->RelV y u->R x y H2->wpAny (model X.prog X.w) X.A (f v u) Q X.xe s2) :
  wpAny (model X.prog X.w) X.A (eval a X.env) (λv s₁=>wpAny (model X.prog X.w) X.A (eval b X.env) (λu s₂=>wpAny (model X.prog X.w) X.A (f v u) Q X.xe s₂) X.xe s₁) X.xe s:=by
 refine thn (i pins s σ H _ I h) λv s1 ⟨x,H1,I1,r1,q1⟩=>?_;refine thn (j pins s1 σ H1 _ I1 q1) λu s2 ⟨y,H2,I2,r2,q2⟩=>?_;exact e v u s2 x y H2 I2 r1 r2 q2
def wZ(i:Nat):TE:=λσ H Q=>∃v,σ[i]?=some (some v)/\Q v H
def tC(v:V):TE:=λ_ H Q=>Q v H
def jG(n:X.N[i]?=some x)(t:Vis X.env.scope x)(hd:nDb x:=by decide)(j:(x==("__classdict__" : Str))=false:=by decide):PE X (.Name x pos) (wZ i):=by
 intro pins s σ H Q I h;obtain⟨v,e,h⟩:=h;obtain⟨m,o,q⟩:=I.loc;obtain⟨u,r,l⟩:=q i x v n e t;have f:EP X pins σ Q u s:=⟨v,H,I,r,h⟩;rcases l with⟨a,p⟩|⟨a,c,hc,b⟩
 .exact wpAny_Name (wpAny_loadName_local I.ok.kind a o p f) hd
 .rcases a with a|a
  .exact wpAny_Name (wpAny_loadName_cell I.ok.kind a hc b f) hd
  .exact wpAny_Name (wpAny_loadName_free I.ok.kind a hc b f j) hd
def pe_int:PE X (.Constant (.int i) j pos) (tC (.int i)):=λ_ _ _ H _ I h=>wpAny_Constant_int ⟨.int i,H,I.tok _,⟨_,rfl⟩,h⟩
def Zb6:PE X (.Constant (.bool b) j pos) (tC (.bl b)):=λ_ _ _ H _ I h=>Constant_bool ⟨.bl b,H,I,rfl,h⟩
def Za2:PE X (.Constant .none j pos) (tC .non):=λ_ _ _ H _ I h=>Constant_none ⟨.non,H,I,rfl,h⟩
def Za1:PE X (.Constant (.str x) j pos) (tC (.str x)):=λ_ _ _ H _ I h=>Calls.Constant_str ⟨.str x,H,I.tok _,⟨_,rfl⟩,h⟩
def Gl(X:Cx)(x:Str):Prop:=X.env.kindOf x=some .globalImplicit
def wO(I:Inv X pins σ H s)(b:Gl X x)(a:X.mg x=some u)(h:Q u s)
  (hd:nDb x:=by decide):wpAny (model X.prog X.w) X.A (eval (.Name x pos) X.env) Q E s :=
 Calls.Name_function_global I.ok.kind b (Calls.loadGlobal_global (by rw[I.ok.glob];exact I.mod.glob.keeps I.bk) a h) hd
def nA(I:Inv X pins σ H s)(b:Gl X x)(a:X.mg x=none)(f:bootBuiltins x=some u)(h:Q u s)
  (i:x ≠ "__name__":=by decide) (hd:nDb x:=by decide):wpAny (model X.prog X.w) X.A (eval (.Name x pos) X.env) Q E s:=by
 obtain⟨j,h1,e⟩:=I.mod.blt;exact Calls.Name_function_global I.ok.kind b (Calls.loadGlobal_builtin (by rw[I.ok.glob];exact I.mod.glob.keeps I.bk) a (by rw[I.ok.blt];exact h1.keeps I.bk) ((e x i).trans f) h) hd
def wM(b:Gl X x)(a:X.mg x=some u)(r:RelV v u)(hd:nDb x:=by decide):PE X (.Name x pos) (tC v) :=
 λ_ _ _ H _ I h=>wO I b a ⟨v,H,I,r,h⟩ hd
variable {a b:Ag}{ta tb:TE}{pos:Pos}
def PC(X:Cx)(op:CmpOp)(a b:Ag)(t:TE):Prop :=
 ∀(pins:Ab (Af×Obj)) (s:Ac) (σ:St) (H:Hp) (Q:VK),Inv X pins σ H s->t σ H Q ->
  wpAny (model X.prog X.w) X.A (eval a X.env) (λv s₁=>wpAny (model X.prog X.w) X.A (eval b X.env) (λu s₂=>wpAny (model X.prog X.w) X.A (compareOp op v u) (EP X pins σ Q) X.xe s₂) X.xe s₁) X.xe s
def Z5W(b:Ag){a:CmpOp}(h:a ≠ .In)(i:a ≠ .NotIn):behindInMarks a b=false:=by
 have f:(a==CmpOp.In)=false:=by cases a<;>first|rfl|exact absurd rfl h
 have e:(a==CmpOp.NotIn)=false:=by cases a<;>first|rfl|exact absurd rfl i
 cases b<;>simp[behindInMarks,f,e]
def tB(t:TE):TT:=λσ H Q=>t σ H λx H1=>∃c,x=.bl c/\Q c H1
def pt_cmp(h:PC X op a b t)(h1:behindInMarks op b=false:=by first|exact Z5W _ (by decide) (by decide)|rfl):PT X (.Compare a [op] [b] pos) (tB t):=by
 intro pins s σ H Q I hw;refine wpAny_isTrue_Compare1 (thn (h pins s σ H _ I hw) λv s1 h1=>thn h1 λu s2 h2=>thn h2 λc s3 ⟨x,H1,I1,r1,q1⟩=>?_) h1;obtain⟨d,rfl,q⟩:=q1;cases r1;exact wpAny_truthy_bool ⟨H1,I1,q⟩
def Z5D(h:PE X e t)(he:∀whole,isTrue e X.env whole=(do let v <- whole;standAt e.pos;holding [v] (truthy v)):=by intro _;rfl):PT X e (tB t):=by
 intro pins s σ H Q I hw;refine isTrue_plain (thn (h pins s σ H _ I hw) λv s1 ⟨x,H1,I1,r1,q1⟩=>?_) (he _);obtain⟨d,rfl,q⟩:=q1;cases r1;exact wpAny_truthy_bool ⟨H1,I1,q⟩
variable {tA tB':TT}{rest:Ab Ag}
def ZbT(t u:TT):TT:=λσ H Q=>t σ H λc H1=>if c=true then u σ H1 Q else Q false H1
def tOr(t u:TT):TT:=λσ H Q=>t σ H λc H1=>if c=true then Q true H1 else u σ H1 Q
def ZbN(t:TT):TT:=λσ H Q=>t σ H λc H1=>Q (!c) H1
def Z7Y(b:PT X a tA):PW X (.BoolOp .And [a] pos) tA:=by
 intro f pins s σ H Q I h;refine isTrue_and (thn (b pins s σ H Q I h) λc s1 e=>?_);cases c with
 |true=>exact isTrue_and_nil e
 |false=>exact e
def Z5y(b:PT X a tA):PW X (.BoolOp .Or [a] pos) tA:=by
 intro f pins s σ H Q I h;refine isTrue_or (thn (b pins s σ H Q I h) λc s1 e=>?_);cases c with
 |false=>exact isTrue_or_nil e
 |true=>exact e
def Z9X(e:PT X a tA)(i:PW X (.BoolOp .And (b::rest) pos) tB'):PW X (.BoolOp .And (a::b::rest) pos) (ZbT tA tB'):=by
 intro f pins s σ H Q I h;refine isTrue_and (thn (e pins s σ H _ I h) λc s1 ⟨H1,I1,q1⟩=>?_);cases c with
 |true=>exact i f pins s1 σ H1 Q I1 q1
 |false=>exact⟨H1,I1,q1⟩
def Z92(e:PT X a tA)(i:PW X (.BoolOp .Or (b::rest) pos) tB'):PW X (.BoolOp .Or (a::b::rest) pos) (tOr tA tB'):=by
 intro f pins s σ H Q I h;refine isTrue_or (thn (e pins s σ H _ I h) λc s1 ⟨H1,I1,q1⟩=>?_);cases c with
 |true=>exact⟨H1,I1,q1⟩
 |false=>exact i f pins s1 σ H1 Q I1 q1
def pt_not(b:PT X a tA):PT X (.UnaryOp .Not a pos) (ZbN tA):=by
 intro pins s σ H Q I h;exact isTrue_not (b pins s σ H (λc H1=>Q (!c) H1) I h)
def tIf(t:TT)(ta tb:TE):TE:=λσ H Q=>t σ H λc H1=>if c=true then ta σ H1 Q else tb σ H1 Q
def pe_ifExp(hc:PT X c tA)(e:PE X a ta)(f:PE X b tb):PE X (.IfExp c a b pos) (tIf tA ta tb):=by
 intro pins s σ H Q I h;refine wpAny_IfExp (thn (hc pins s σ H _ I h) λd s1 ⟨H1,I1,q1⟩=>?_);cases d with
 |true=>exact e pins s1 σ H1 Q I1 q1
 |false=>exact f pins s1 σ H1 Q I1 q1
end
def SqL(K:Frag)(H:Hp)(a:Af)(xs:Ab V):Prop :=
 Rd H a (.lst xs) \/
  ∃(o:Obj) (its:Ae Ad) (n:Nat),K.lookup a=some o/\o.cls=.type "list" /\ o.dict=none/\o.data=.seq its n/\its.size<=sizeLine/\Vals xs its.toList
def SqT(K:Frag)(H:Hp)(a:Af)(xs:Ab V):Prop :=
 Rd H a (.tup xs) \/
  ∃(o:Obj) (its:Ae Ad) (n:Nat),K.lookup a=some o/\o.cls=.type "tuple" /\ o.data=.seq its n/\its.size<=sizeLine/\Vals xs its.toList
def Zcg:Ad->Aa V
 | .none=>some .non
 | .bool b=>some (.bl b)
 | .int i _=>some (.int i)
 | .str x _=>some (.str x)
 | .bytes b _=>some (.byt b)
 | .float b _=>some (.flt b)
 | .ref a=>some (.ref a)
 | .type n=>some (.ty n)
 |_=>none
def RelV.abs(r:RelV x u):Zcg u=some x:=by
 cases x with
 |non=>cases r;rfl
 |bl _=>cases r;rfl
 |int _=>obtain⟨t,rfl⟩:=r;rfl
 |str _=>obtain⟨t,rfl⟩:=r;rfl
 |byt _=>obtain⟨t,rfl⟩:=r;rfl
 |flt _=>obtain⟨t,rfl⟩:=r;rfl
 |ref _=>cases r;rfl
 |ty _=>cases r;rfl
def RelV.inj(r:RelV x u)(q:RelV y u):x=y:=QaI (r.abs.symm.trans q.abs)
theorem Vals.inj:∀{xs ys:Ab V}{us:Ab Ad},Vals xs us->Vals ys us->xs=ys
 |_,_,_,.nil,.nil=>rfl
 |_,_,_,.cons r t,.cons r' t'=>by rw[r.inj r',Vals.inj t t']
section
variable {X:Cx}{pins:Ab (Af×Obj)}{σ:St}{H:Hp}{s:Ac}{a:Af}{xs ys:Ab V}
def SqL.of{K:Frag}(h:H a=some (.lst xs)):SqL K H a xs:=.inl (.inl h)
def SqT.of{K:Frag}(h:H a=some (.tup xs)):SqT K H a xs:=.inl (.inl h)
def Inv.list(I:Inv X pins σ H s)(h:SqL X.K H a xs):∃its:Ab Ad,Vals xs its/\PlainL s.heap a its.toArray/\xs.length<=sizeLine:=by
 rcases h with h|⟨o,its,n,hk,hc,hd,hs,hz,r⟩
 .obtain⟨z,its,n,r,e⟩:=h.ok I.hok;exact⟨its,r,⟨_,n,e,rfl,rfl,rfl⟩,z⟩
 .refine⟨its.toList,r,⟨o,n,I.kIn a o hk,hc,hd,by simpa using hs⟩,?_⟩;have e:=r.length;simp only[Qbk]at e;omega
def Inv.tuple(I:Inv X pins σ H s)(h:SqT X.K H a xs):∃its:Ab Ad,Vals xs its/\IsTup s.heap a its.toArray/\xs.length<=sizeLine:=by
 rcases h with h|⟨o,its,n,hk,hc,hs,hz,r⟩
 .obtain⟨z,its,r,p⟩:=h.ok I.hok;exact⟨its,r,p,z⟩
 .refine⟨its.toList,r,⟨o,I.kIn a o hk,hc,n,by simpa using hs⟩,?_⟩;have e:=r.length;simp only[Qbk]at e;omega
def Inv.list_inj(I:Inv X pins σ H s)(h:SqL X.K H a xs)(h':SqL X.K H a ys):xs=ys:=by
 obtain⟨its,r,⟨o,n,e,_,_,d⟩,_⟩:=I.list h;obtain⟨its',f,⟨o',i,b,_,_,d'⟩,_⟩:=I.list h';rw[e]at b;cases b;rw[d]at d';injection d' with d1 _;have:its=its':=by simpa using congrArg Array.toList d1
 subst this;exact r.inj f
def Inv.tuple_inj(I:Inv X pins σ H s)(h:SqT X.K H a xs)(h':SqT X.K H a ys):xs=ys:=by
 obtain⟨its,r,⟨o,e,_,n,d⟩,_⟩:=I.tuple h;obtain⟨its',f,⟨o',b,_,i,d'⟩,_⟩:=I.tuple h';rw[e]at b;cases b;rw[d]at d';injection d' with d1 _;have:its=its':=by simpa using congrArg Array.toList d1
 subst this;exact r.inj f
end
abbrev Cx.wish(X:Cx)(E:Ad->Ac->Prop):Cx:={ X with xe:=E }
abbrev Cx.nox(X:Cx):Cx:=X.wish λ_ _=>False
theorem Cx.Ok.wish{X:Cx}(ok:X.Ok)(E:Ad->Ac->Prop):(X.wish E).Ok :=
 ⟨ok.mod,ok.kind,ok.glob,ok.blt,ok.above,ok.inj,ok.has,ok.cab,ok.hd,ok.frames,ok.stk,ok.exf,ok.bs,ok.bsz,ok.noex,ok.exfs,ok.funs,ok.frf⟩
def Cx.Ok.unwish{X:Cx}{E:Ad->Ac->Prop}(ok:(X.wish E).Ok):X.Ok :=
 ⟨ok.mod,ok.kind,ok.glob,ok.blt,ok.above,ok.inj,ok.has,ok.cab,ok.hd,ok.frames,ok.stk,ok.exf,ok.bs,ok.bsz,ok.noex,ok.exfs,ok.funs,ok.frf⟩
section
variable {X:Cx}{pins:Ab (Af×Obj)}{σ:St}{H:Hp}{s:Ac}{E:Ad->Ac->Prop}
theorem Inv.wish(I:Inv X pins σ H s)(E:Ad->Ac->Prop):Inv (X.wish E) pins σ H s:=⟨I.ok.wish E,I.os,I.bare,I.base,I.loc,I.cell,I.free,I.freeC,I.pin,I.hok,I.len⟩
theorem Inv.unwish(I:Inv (X.wish E) pins σ H s):Inv X pins σ H s:=⟨I.ok.unwish,I.os,I.bare,I.base,I.loc,I.cell,I.free,I.freeC,I.pin,I.hok,I.len⟩
theorem SP.unwish(h:SP (X.wish E) pins D f s'):SP X pins D f s':=by
 cases f with
 |next=>obtain⟨σ',H',I,q⟩:=h;exact⟨σ',H',I.unwish,q⟩
 |brk=>obtain⟨σ',H',I,q⟩:=h;exact⟨σ',H',I.unwish,q⟩
 |cont=>obtain⟨σ',H',I,q⟩:=h;exact⟨σ',H',I.unwish,q⟩
 |ret u=>obtain⟨v,σ',H',I,r,q⟩:=h;exact⟨v,σ',H',I.unwish,r,q⟩
theorem PSs.nox{st:Ab Stmt}{t:TS}(h:PSs X.nox st t):PSs X st t:=λpins s σ H D I hw =>
 Rc (h pins s σ H D (I.wish _) hw) (λ_ _ q=>q.unwish) λ_ _ z=>False.elim z
end
section
variable {X:Cx}{st:Stmt}{rest:Ab Stmt}{t u:TS}{e:Ag}{te:TE}{pos:Pos}
def ZaF:TS:=λD σ H=>D.nx σ H
def Z9q(t u:TS):TS:=λD σ H=>t { D with nx:=u D } σ H
def Z2k:PSs X [] ZaF:=λ_ _ σ H _ I h=>wpAny_execs_nil ⟨σ,H,I,h⟩
def nY(h1:PS X st t)(a:PSs X rest u):PSs X (st::rest) (Z9q t u):=by
 intro pins s σ H D I h;refine wpAny_execs_cons (thn (h1 pins s σ H { D with nx:=u D } I h) λf s1 q=>?_);cases f with
 |next =>
  obtain⟨σ',H',b,q⟩:=q;exact a pins s1 σ' H' D b q
 |ret v=>exact q
 |brk=>exact q
 |cont=>exact q
def wJ(h1:PS X st t):PSs X [st] t:=by
 intro pins s σ H D I h;refine wpAny_execs_cons (thn (h1 pins s σ H D I h) λf s1 q=>?_);cases f with
 |next=>exact wpAny_execs_nil q
 |ret v=>exact q
 |brk=>exact q
 |cont=>exact q
def Inv.quiet(I:Inv X pins σ H s):interactive X.env=false:=by simp[interactive,I.ok.kind]
def ZaG(te:TE):TS:=λD σ H=>te σ H λ_ H1=>D.nx σ H1
def M9(he:PE X e te)(hs:swapsWith e none pos.line X.env=pure false:=by rfl):PS X (.Expr e pos) (ZaG te):=by
 intro pins s σ H D I h;exact wpAny_Expr_any (thn (he pins s σ H _ I h) λv s1 ⟨x,H1,I1,r1,q1⟩=>⟨σ,H1,I1,q1⟩) I.quiet hs
def ZbM(te:TE):TS:=λD σ H=>te σ H D.rt
def M8(he:PE X e te):PS X (.Return (some e) pos) (ZbM te):=by
 intro pins s σ H D I h;exact wpAny_Return_some (thn (he pins s σ H _ I h) λv s1 ⟨x,H1,I1,r1,q1⟩=>⟨x,σ,H1,I1,r1,q1⟩)
def ZbP(c:TT)(t u:TS):TS:=λD σ H=>c σ H λb H1=>if b=true then t D σ H1 else u D σ H1
def Z93(hc:PT X c tc)(e:PSs X a t)(f:PSs X b u):PS X (.If c a b pos) (ZbP tc t u):=by
 intro pins s σ H D I h;refine wpAny_If (thn (hc pins s σ H _ I h) λd s1 ⟨H1,I1,q1⟩=>?_);cases d with
 |true=>exact e pins s1 σ H1 D I1 q1
 |false=>exact f pins s1 σ H1 D I1 q1
def Z9r:TS:=λ_ _ _=>False
def Z5E:PS X st Z9r:=λ_ _ _ _ _ _ h=>h.elim
end
abbrev TG:=V->St->Hp->(St->Hp->Prop)->Prop
abbrev TGs:=Ab V->St->Hp->(St->Hp->Prop)->Prop
def PG(X:Cx)(target:Ag)(t:TG):Prop :=
 ∀(pins:Ab (Af×Obj)) (s:Ac) (σ:St) (H:Hp) (v:V) (u:Ad) (Q:St->Hp->Prop),Inv X pins σ H s->RelV v u->t v σ H Q ->
  wpAny (model X.prog X.w) X.A (assign target X.env u) (λ_ s'=>∃σ' H',Inv X pins σ' H' s'/\Q σ' H') X.xe s
def PGs(X:Cx)(ts:Ab Ag)(t:TGs):Prop :=
 ∀(pins:Ab (Af×Obj)) (s:Ac) (σ:St) (H:Hp) (vs:Ab V) (us:Ab Ad) (Q:St->Hp->Prop),Inv X pins σ H s->Vals vs us->t vs σ H Q ->
  wpAny (model X.prog X.w) X.A (assignInOrder ((assignEach ts X.env).map (·.2)) us) (λ_ s'=>∃σ' H',Inv X pins σ' H' s'/\Q σ' H') X.xe s
abbrev ZbA:=V->V->V->Hp->(Hp->Prop)->Prop
def ZbB(X:Cx)(t:ZbA):Prop :=
 ∀(pins:Ab (Af×Obj)) (s:Ac) (σ:St) (H:Hp) (o i v:V) (ov iv u:Ad) (Q:Hp->Prop),Inv X pins σ H s->RelV o ov->RelV i iv->RelV v u->t o i v H Q ->
  wpAny (model X.prog X.w) X.A (setItem ov iv u) (λ_ s'=>∃H',Inv X pins σ H' s'/\Q H') X.xe s
section
variable {X:Cx}{pos:Pos}
def F8(i:Nat):TG:=λv σ H Q=>Q (σ.set i (some v)) H
def dH(b:X.N.Nodup)(hi:X.N[i]?=some x)(e:Loc X.env.scope x)(a:X.fn x=true\/X.env.scope.names.lookup x=some .local:=by first|exact .inl rfl|exact .inr rfl|assumption):PG X (.Name x pos) (F8 i):=by
 intro pins s σ H v u Q I r h;exact wpAny_assign_Name (xD I b hi e r (λs' I'=>⟨_,H,I',h⟩) a)
def Zbr:TGs:=λvs σ H Q=>vs=[]/\Q σ H
def Z9b(t:TG)(u:TGs):TGs:=λvs σ H Q=>∃v r,vs=v::r/\t v σ H λσ' H'=>u r σ' H' Q
def mU:PGs X [] Zbr:=by
 intro pins s σ H vs us Q I r h;obtain⟨e,h⟩:=h;subst e;cases r;exact assignInOrder_nil ⟨σ,H,I,h⟩
def dL(h1:PG X e t)(a:PGs X es u)
  (hs:(assignEach (e::es) X.env).map (·.2)=assign e X.env::(assignEach es X.env).map (·.2):=by rfl):PGs X (e::es) (Z9b t u):=by
 intro pins s σ H vs us Q I r h;obtain⟨v,f,b,h⟩:=h;subst b;cases r with
 |cons r rr =>
  rw[hs];refine assignInOrder_cons (thn (h1 pins s σ H _ _ _ I r h) λ_ s1 ⟨σ1,H1,I1,q1⟩=>?_);exact a pins s1 σ1 H1 _ _ Q I1 rr q1
def Zbo(K:Frag)(n:Nat)(t:TGs):TG:=λv σ H Q=>∃a xs,v=.ref a/\SqT K H a xs/\xs.length=n/\t xs σ H Q
def Z17(hc:X.calm=true)(h:PGs X es t)
  (p:(assignEach es X.env).length=n:=by rfl) (f:(assignEach es X.env).findIdx? (·.1)=none:=by rfl):PG X (.Tuple es k pos) (Zbo X.K n t):=by
 intro pins s σ H v u Q I r hw;obtain⟨a,xs,l,hq,q,hw⟩:=hw;subst l;cases r;obtain⟨its,i,j,x⟩:=I.tuple hq;refine assign_Tuple_tuple (I.ok.hd hc) j (by simp[p,<- q,i.length]) f λh' hx=>?_;have w:Inv X pins σ H { s with heap:=h' }:=I.kept (t':=s.toks) λb o e=>hx b o (QaM (Qal e)) e;exact h pins _ σ H xs _ Q w (by simpa using i) hw
def Zai(to ti:TE)(t:ZbA):TG:=λv σ H Q=>to σ H λo H1=>ti σ H1 λi H2=>t o i v H2 λH3=>Q σ H3
def Z5K(a:PE X o to)(hi:PE X i ti)(hs:ZbB X t)
  (b:∀ v,assign (.Subscript o i pos) X.env v=(do
   let ov <- holding [v] (eval o X.env)
   let iv <- holding [v,ov] (eval i X.env)
   standAt pos
   holding [v,ov,iv] (setItem ov iv v)
   release [v,ov,iv] []):=by intro _;rfl):PG X (.Subscript o i pos) (Zai to ti t):=by
 intro pins s σ H v u Q I r h;rw[b];refine Ra (Rf (thn (a pins s σ H _ I h) λov s1 ⟨x,H1,I1,r1,q1⟩=>?_));refine Ra (Rf (thn (hi pins s1 σ H1 _ I1 q1) λiv s2 ⟨y,H2,I2,r2,q2⟩=>?_));refine Ra (wpAny_standAt (Ra (Rf (thn (hs pins s2 σ H2 x y v ov iv u _ I2 r1 r2 r q2) λ_ s3 ⟨H3,I3,q3⟩=>?_))));exact wpAny_release ⟨σ,H3,I3,q3⟩
def Z0O(te:TE)(g:TG):TS:=λD σ H=>te σ H λx H1=>g x σ H1 D.nx
def Z15(he:PE X e te)(a:PG X tg g)(hs:swapsWithSole [tg] e pos.line X.env=pure false:=by rfl)(hw:swappedStores [tg] e X.env=pure none:=by rfl)
  (h1:(assignEach [tg] X.env).map (·.2)=[assign tg X.env]:=by rfl):PS X (.Assign [tg] e pos) (Z0O te g):=by
 intro pins s σ H D I h;refine wpAny_Assign_stores (thn (he pins s σ H _ I h) λv s1 ⟨x,H1,I1,r1,q1⟩=>?_) hs hw;rw[h1];exact thn (a pins s1 σ H1 x v _ I1 r1 q1) λ_ s2 q=>q
def M7(b:X.N.Nodup)(hi:X.N[i]?=some x)(f:Loc X.env.scope x)(he:PE X e te)(hs:swapsWith e (some (.Name x pos')) pos.line X.env=pure false:=by rfl)(a:X.fn x=true\/X.env.scope.names.lookup x=some .local:=by first|exact .inl rfl|exact .inr rfl|assumption) :
  PS X (.Assign [.Name x pos'] e pos) (Z0O te (F8 i)):=by
 intro pins s σ H D I h;refine wpAny_Assign_Name (thn (he pins s σ H _ I h) λv s1 ⟨y,H1,I1,r1,q1⟩=>?_) hs;exact xD I1 b hi f r1 (λs2 I2=>⟨_,H1,I2,q1⟩) a
end
structure It where
 go:Nat->Hp->Prop
 yld:Nat->Hp->V->Hp->Prop
 stop:Nat->Hp->Prop
def C1(X:Cx)(pins:Ab (Af×Obj))(H:Hp)(b:Af):Prop :=
 H b=none/\b≠X.env.locals/\b∉X.fs/\(b∈X.ex\/X.s₀.heap.objs.size<=b)/\(∀x c,X.env.cells.lookup x=some c->c≠b)/\∀p∈X.pn++pins,p.1≠b
def Inv.fpOk(I:Inv X pins σ H s)(a:s.heap.objs.size<=b)(f:H' b=none):C1 X pins H' b:=by
 refine⟨f,QbC (QaJ I.lt a),I.nofs a,.inr (QaC I.sz a),λx c e z=>?_,λp hp z=>?_⟩
 .obtain⟨v,q⟩:=I.cell x c e;exact absurd (QaJ q.lt (by rw[z];exact a)) (Qbg _)
 .exact absurd (QaJ (Qal (I.pin p hp).1) (by rw[z];exact a)) (Qbg _)
structure R6(P:Program)(w:World)(K:Frag)(tg:Expr)(J:It)(fp:List Addr)(it:Addr)(tn:Nat->Heap->Prop):Prop where
 mem:it∈fp
 obj:∀i h,tn i h->∀b∈fp,∃o,h.get? b=some o/\∀v,o.data ≠ .cell v
 keep:∀i h h',tn i h->(∀b∈fp,∀o,h.get? b=some o->h'.get? b=some o)->tn i h'
 item:∀(X:Cx),X.prog=P->X.w=w->X.K=K->X.calm=true->∀(i:Nat) (pins:Ab (Af×Obj)) (s:Ac) (σ:St) (H:Hp) (E:Ad->Ac->Prop),Inv X pins σ H s->(∀b∈fp,C1 X pins H b)->tn i s.heap->J.go i H ->
  wpAny (model P w) X.A (pyNext (.ref it)) (λr s1=>∃u,r=some u /\
   wpAny (model P w) X.A (letOwnedTupleGo tg (.ref it) u) (λ_ s2=>∃x H',Inv X pins σ H' s2/\RelV x u/\J.yld i H x H'/\tn (i+1) s2.heap/\∀b∈fp,H' b=none) E s1) E s
 done:∀(X:Cx),X.prog=P->X.w=w->X.K=K->X.calm=true->∀(i:Nat) (pins:Ab (Af×Obj)) (s:Ac) (σ:St) (H:Hp) (E:Ad->Ac->Prop),Inv X pins σ H s->(∀b∈fp,C1 X pins H b)->tn i s.heap->J.stop i H ->
  wpAny (model P w) X.A (pyNext (.ref it)) (λr s1=>r=none/\Inv X pins σ H s1) E s
 self:∀(A:Ai) (i:Nat) (s:Ac) (Q:Ad->Ac->Prop) (E:Ad->Ac->Prop),tn i s.heap->Q (.ref it) s->wpAny (model P w) A (pyIter (.ref it)) Q E s
abbrev TI:=St->Hp->(It->Hp->Prop)->Prop
def PIE(X:Cx)(pins:Ab (Af×Obj))(σ:St)(tg:Ag)(R:It->Hp->Prop)(itv:Ad)(s2:Ac):Prop :=
 ∃(it:Af) (fp:Ab Af) (tn:Nat->Ah->Prop) (J:It) (H':Hp),itv=.ref it/\Inv X pins σ H' s2/\R6 X.prog X.w X.K tg J fp it tn/\tn 0 s2.heap/\(∀b∈fp,C1 X pins H' b)/\R J H'
def PI(X:Cx)(tg iter:Ag)(wi:TI):Prop :=
 ∀(pins:Ab (Af×Obj)) (s:Ac) (σ:St) (H:Hp) (R:It->Hp->Prop),Inv X pins σ H s->wi σ H R ->
  wpAny (model X.prog X.w) X.A (eval iter X.env) (λv s1=>wpAny (model X.prog X.w) X.A (pyIter v) (PIE X pins σ tg R) X.xe s1) X.xe s
def Z00(b:s.heap.get? it=some o)(hc:o.cls=.type n)(hd:o.data=.fields vs)
  (e:["enumerate","zip","dict_itemiterator","dict_reverseitemiterator","odict_iterator","itertools.zip_longest","itertools.pairwise"].contains n=false) (a:Q () s):wpAny M A (letOwnedTupleGo tg (.ref it) u) Q E s:=by
 unfold letOwnedTupleGo;cases tg<;>first
  |exact Rb a
  | (cases u <;> first
    |exact Rb a
    | (refine Ra (wpAny_load b ?_)
       rw[hc,hd];show wpAny M A (if (["enumerate","zip","dict_itemiterator","dict_reverseitemiterator","odict_iterator","itertools.zip_longest","itertools.pairwise"].contains n&&vs[0]?==some (rawInt _))=true then _ else _) Q E s;rw[if_neg (by intro h;rw[e,Bool.false_and]at h;cases h)];exact Rb a))
def Itl(K:Frag)(a:Af):It :=
 ⟨λi H=>∃xs x,SqL K H a xs/\xs[i]?=some x,λi H x H'=>H'=H/\∀xs,SqL K H a xs->xs[i]?=some x,λi H=>∃xs,SqL K H a xs/\xs.length<=i⟩
def Itt(K:Frag)(a:Af):It :=
 ⟨λi H=>∃xs x,SqT K H a xs/\xs[i]?=some x,λi H x H'=>H'=H/\∀xs,SqT K H a xs->xs[i]?=some x,λi H=>∃xs,SqT K H a xs/\xs.length<=i⟩
def Itr(lo:Int)(n:Nat):It:=⟨λi _=>i<n,λi H x H'=>H'=H/\x=.int (lo+i),λi _=>n<=i⟩
def Z34{P:Aj}{w:Ak}{K:Frag}{tg:Ag}(a it:Af):R6 P w K tg (Itl K a) [it] it (λi h=>h.IsListIter it a i) where
 mem:=by simp
 obj:=λi h st b hb=>by
  have e:b=it:=by simpa using hb
  subst e;obtain⟨o,e,c,d⟩:=st;exact⟨o,e,λv z=>by rw[d]at z;cases z⟩
 keep:=λi h h' st k=>st.at λo e=>k it (by simp) o e
 item:=by
  intro X y hw j hc i pins s σ H E I f st l;subst y hw j;obtain⟨xs,x,hq,A⟩:=l;obtain⟨its,n,p,C⟩:=I.list hq;obtain⟨u,L,G⟩:=n.get A;obtain⟨B,f1,J,t,r,q⟩:=f it (by simp);refine wpAny_pyNext_list_item st p.isList (x:=u) (by simpa using L) λh' st' sb=>?_;have F:Inv X pins σ H { s with heap:=h' }:=I.turned (t':=s.toks) (λb o hb e=>(sb.2 b hb).trans e) B f1 t r q;obtain⟨o,e,c,d⟩:=id st';exact⟨u,rfl,Z00 (s:={ s with heap:=h' }) e c d (by decide) ⟨x,H,F,G,⟨rfl,λys hy=>by rw[I.list_inj hy hq];exact A⟩,st',λb hb=>(f b hb).1⟩⟩
 done:=by
  intro X y hw j hc i pins s σ H E I f st l;subst y hw j;obtain⟨xs,hq,A⟩:=l;obtain⟨its,n,p,C⟩:=I.list hq;obtain⟨B,f1,J,t,r,q⟩:=f it (by simp);have M:=n.length;exact wpAny_pyNext_list_end (I.ok.hd hc) st p.isList (by simp;omega) λh' eb=>⟨rfl,I.turned (t':=s.toks) (λb o hb e=>eb b o hb e) B f1 t r q⟩
 self:=λ_ _ _ _ _ st h=>wpAny_pyIter_listiter st h
def Z0I{P:Aj}{w:Ak}{K:Frag}{tg:Ag}(a it:Af):R6 P w K tg (Itt K a) [it] it (λi h=>h.IsTupleIter it a i) where
 mem:=by simp
 obj:=λi h st b hb=>by
  have e:b=it:=by simpa using hb
  subst e;obtain⟨o,e,c,d⟩:=st;exact⟨o,e,λv z=>by rw[d]at z;cases z⟩
 keep:=λi h h' st k=>st.at λo e=>k it (by simp) o e
 item:=by
  intro X y hw j hc i pins s σ H E I f st l;subst y hw j;obtain⟨xs,x,hq,A⟩:=l;obtain⟨its,n,p,C⟩:=I.tuple hq;obtain⟨u,L,G⟩:=n.get A;obtain⟨B,f1,J,t,r,q⟩:=f it (by simp);refine wpAny_pyNext_tuple_item st (show s.heap.IsTuple a its.toArray from p) (x:=u) (by simpa using L) λh' st' sb=>?_
  have F:Inv X pins σ H { s with heap:=h' }:=I.turned (t':=s.toks) (λb o hb e=>(sb.2 b hb).trans e) B f1 t r q;obtain⟨o,e,c,d⟩:=id st';exact⟨u,rfl,Z00 (s:={ s with heap:=h' }) e c d (by decide) ⟨x,H,F,G,⟨rfl,λys hy=>by rw[I.tuple_inj hy hq];exact A⟩,st',λb hb=>(f b hb).1⟩⟩
 done:=by
  intro X y hw j hc i pins s σ H E I f st l;subst y hw j;obtain⟨xs,hq,A⟩:=l;obtain⟨its,n,p,C⟩:=I.tuple hq;obtain⟨B,f1,J,t,r,q⟩:=f it (by simp);have M:=n.length;exact wpAny_pyNext_tuple_end (I.ok.hd hc) st (show s.heap.IsTuple a its.toArray from p) (by simp;omega) λh' eb=>⟨rfl,I.turned (t':=s.toks) (λb o hb e=>eb b o hb e) B f1 t r q⟩
 self:=λ_ _ _ _ _ st h=>wpAny_pyIter_tupleiter st h
def Z0J{P:Aj}{w:Ak}{K:Frag}{tg:Ag}(it:Af)(lo:Int)(n:Nat):R6 P w K tg (Itr lo n) [it] it (λi h=>IsRangeIter h it (lo+(i:Nat)*1) ((n:Int)-(i:Nat)) 1) where
 mem:=by simp
 obj:=λi h st b hb=>by
  have e:b=it:=by simpa using hb
  subst e;exact⟨_,st,λv z=>by
   have y:Data.fields _=Data.cell v:=z;cases y⟩
 keep:=λi h h' st k=>k it (by simp) _ st
 item:=by
  intro X r hw f hc i pins s σ H E I a st l;subst r hw f;obtain⟨j,f1,A,q,p,u⟩:=a it (by simp);have W:=Walks.range (prog:=X.prog) (w:=X.w) (I.ok.hd hc) it lo 1 n;refine W.item i s _ _ l st λv h' tk hv st' kk=>?_;obtain⟨t,rfl⟩:=hv;have x:Inv X pins σ H { s with heap:=h',toks:=tk }:=I.turned (λb o hb e=>kk b o (by simpa using hb) e) j f1 q p u;refine⟨_,rfl,Z00 (s:={ s with heap:=h',toks:=tk }) (n := "range_iterator") st' rfl rfl (by decide) ⟨.int (lo+i),H,x,⟨t,?_⟩,⟨rfl,rfl⟩,st',λb hb=>(a b hb).1⟩⟩;rw[Int.mul_one]
 done:=by
  intro X r hw f hc i pins s σ H E I a st l;subst r hw f;obtain⟨j,f1,A,q,p,u⟩:=a it (by simp);exact wpAny_pyNext_range_end (I.ok.hd hc) st (by have:n<=i:=l;omega) λh' eb=>⟨rfl,I.turned (t':=s.toks) (λb o hb e=>eb b o hb e) j f1 q p u⟩
 self:=λ_ _ _ _ _ st h=>wpAny_pyIter_rangeiter st h
section
variable {X:Cx}{tg:Ag}
def Zbl(K:Frag)(tl:TE):TI:=λσ H R=>tl σ H λx H1=>∃a,x=.ref a/\(∃xs,SqL K H1 a xs)/\R (Itl K a) H1
def Zc8(K:Frag)(tl:TE):TI:=λσ H R=>tl σ H λx H1=>∃a,x=.ref a/\(∃xs,SqT K H1 a xs)/\R (Itt K a) H1
def Z85{l:Ag}{tl:TE}(f:PE X l tl):PI X tg l (Zbl X.K tl):=by
 intro pins s σ H R I h;refine thn (f pins s σ H _ I h) λv s1 ⟨x,H1,I1,r1,q1⟩=>?_;obtain⟨a,e,⟨xs,hq⟩,q⟩:=q1;subst e;cases r1;obtain⟨its,j,p,i⟩:=I1.list hq;refine wpAny_pyIter_list p.isList ?_;refine⟨s1.heap.objs.size,[s1.heap.objs.size],_,_,H1,rfl,I1.kept (t':=s1.toks) λb o e=>Qac _ e,Z34 a _,⟨_,Qap _ rfl,rfl,rfl⟩,λb hb=>?_,q⟩;have e:b=s1.heap.objs.size:=by simpa using hb
 subst e;exact I1.fpOk (Qan _) (I1.hok.fresh (Qan _))
def Z9Z{l:Ag}{tl:TE}(f:PE X l tl):PI X tg l (Zc8 X.K tl):=by
 intro pins s σ H R I h;refine thn (f pins s σ H _ I h) λv s1 ⟨x,H1,I1,r1,q1⟩=>?_;obtain⟨a,e,⟨xs,hq⟩,q⟩:=q1;subst e;cases r1;obtain⟨its,j,p,i⟩:=I1.tuple hq;refine wpAny_pyIter_tuple (show s1.heap.IsTuple a its.toArray from p) ?_
 refine⟨s1.heap.objs.size,[s1.heap.objs.size],_,_,H1,rfl,I1.kept (t':=s1.toks) λb o e=>Qac _ e,Z0I a _,⟨_,Qap _ rfl,rfl,rfl⟩,λb hb=>?_,q⟩;have e:b=s1.heap.objs.size:=by simpa using hb
 subst e;exact I1.fpOk (Qan _) (I1.hok.fresh (Qan _))
def W0{pins:Ab (Af×Obj)}{σ:St}{H:Hp}{s:Ac}{R:It->Hp->Prop}{E:Ad->Ac->Prop}{lo hi:Int}{t u v:Tok}{tk:Nat}(I:Inv X pins σ H s)(h1:-(2^62)<=lo)(i:lo<2^62)(l:-(2^62)<=hi)(f:hi<2^62)
  (q:R (Itr lo (hi-lo).toNat) H):wpAny (model X.prog X.w) X.A (pyIter (.ref s.heap.objs.size)) (PIE X pins σ tg R) E { s with heap:=s.heap.push { cls:=.type "range",data:=.fields #[.int lo t,.int hi u,.int 1 v] },toks:=tk }:=by
 refine wpAny_pyIter_range (IsRange.new ..) (small_one h1 i l f) ?_;have a:Inv X pins σ H { s with heap:=s.heap.push { cls:=.type "range",data:=.fields #[.int lo t,.int hi u,.int 1 v] },toks:=tk }:=I.kept λb o e=>Qac _ e;refine⟨(s.heap.push { cls:=.type "range",data:=.fields #[.int lo t,.int hi u,.int 1 v] }).objs.size,[(s.heap.push { cls:=.type "range",data:=.fields #[.int lo t,.int hi u,.int 1 v] }).objs.size],_,_,H,rfl,
  a.kept (t':=tk) λb o e=>Qac _ e,Z0J _ lo (hi-lo).toNat,?_,λb hb=>?_,q⟩
 .have h:lo+((0:Nat):Int)*1=lo:=by simp
  have j:(((hi-lo).toNat:Nat):Int)-((0:Nat):Int)=Builtin.Range.rangeSize lo hi 1:=by rw[rangeSize_one];split<;>omega
  show IsRangeIter _ _ (lo+((0:Nat):Int)*1) ((((hi-lo).toNat:Nat):Int)-((0:Nat):Int)) 1;rw[h,j];exact Qap _ rfl
 .have e:b=(s.heap.push { cls:=.type "range",data:=.fields #[.int lo t,.int hi u,.int 1 v] }).objs.size:=by simpa using hb
  subst e;exact a.fpOk (Qan _) (a.hok.fresh (Qan _))
def Zbj(ta:TA):TI:=λσ H R=>ta σ H λvs H1=>∃j:Int,vs=[.int j] /\ -(2^62)<=j/\j<2^62/\R (Itr 0 j.toNat) H1
def Zbi(ta:TA):TI:=λσ H R=>ta σ H λvs H1=>∃i j:Int,vs=[.int i,.int j]/\(-(2^62)<=i/\i<2^62 /\ -(2^62)<=j/\j<2^62)/\R (Itr i (j-i).toNat) H1
def Z3O{a:Ag}{ta:TA}{p pos:Pos}(n:Gl X "range")(l:X.mg "range" = none)(f:PA X [a] ta)(hs:starEach [a] X.env=[(false,eval a X.env)]:=by rfl):PI X tg (.Call (.Name "range" p) [a] [] pos) (Zbj ta):=by
 intro pins s σ H R I h;refine Call_ (nA I n l boot_range (PyProof.Rows.callWith_type1 (thn (f pos pins s σ H _ I h) λus s1 ⟨vs,H1,I1,r1,b⟩=>?_) hs rfl));obtain⟨j,e,b,i,q⟩:=b;subst e;cases r1 with
 |cons r rr =>
  cases rr;obtain⟨t,rfl⟩:=r;exact call_range_1 (W0 I1 (by omega) (by omega) b i (by simpa using q))
def Z3N(w:Gl X "range")(v:X.mg "range" = none)(o:PA X [a,b] ta)(hs:starEach [a,b] X.env=[(false,eval a X.env),(false,eval b X.env)]:=by rfl)(f:starEach [b] X.env=[(false,eval b X.env)]:=by rfl) :
  PI X tg (.Call (.Name "range" p) [a,b] [] pos) (Zbi ta):=by
 intro pins s σ H R I h;refine Call_ (nA I w v boot_range (PyProof.Rows.callWith_type1 (thn (o pos pins s σ H _ I h) λus s1 ⟨vs,H1,I1,r1,l⟩=>?_) (by rw[hs,f]) (by rw[f];rfl)));obtain⟨i,j,e,⟨l,u,x,n⟩,q⟩:=l;subst e;cases r1 with
 |cons r rr =>
  cases rr with
  |cons r' rr =>
   cases rr;obtain⟨t,rfl⟩:=r;obtain⟨t',rfl⟩:=r';exact call_range_2 (W0 I1 l u x n q)
def ZbQ(wi:TI)(g:TG)(tb:TS):TS:=λD σ H=>wi σ H λJ H1=>∃W:Nat->Nat->St->Hp->Prop,(∃m,W 0 m σ H1)/\∀i m σ H,W i m σ H ->
 (J.stop i H/\D.nx σ H)\/(J.go i H/\∃N:St->Hp->Prop,(∀σ' H',N σ' H'->∃m',m'<m/\W (i+1) m' σ' H')/\∀x H',J.yld i H x H'->g x σ H' λσ2 H2=>tb { D with nx:=N,ct:=N,bk:=D.nx } σ2 H2)
def yD(fp:Ab Af)(h:Ah):Ab (Af×Obj):=fp.filterMap λb=>(h.get? b).map λo=>(b,o)
def mY(a:b∈fp)(e:h.get? b=some o):(b,o)∈yD fp h:=List.mem_filterMap.mpr ⟨b,a,by rw[e];rfl⟩
def Z3Q(hp:p∈yD fp h):p.1∈fp/\h.get? p.1=some p.2:=by
 obtain⟨b,a,e⟩:=List.mem_filterMap.mp hp;cases q:h.get? b with
 |none=>rw[q]at e;cases e
 |some o =>
  rw[q]at e;have f:(b,o)=p:=QaI e;subst f;exact⟨a,q⟩
def Inv.pinned(I:Inv X pins σ H s)(h:∀b∈fp,C1 X pins H b)(j:∀b∈fp,∃o,s.heap.get? b=some o/\∀v,o.data ≠ .cell v):Inv X (pins++yD fp s.heap) σ H s :=
 I.pins_of λp hp=>(Qai.mp hp).elim (λz=>I.pin p (Qag _ z)) λz=>by
  obtain⟨f,e⟩:=Z3Q z;obtain⟨i,f1,l,_⟩:=h p.1 f;obtain⟨o,a,d⟩:=j p.1 f;rw[e]at a;cases a;exact⟨e,i,f1,l,d⟩
def Inv.unpinned(I:Inv X (pins++pl) σ H s):Inv X pins σ H s:=I.pins_of λp hp=>I.pin p (Qag _ (Qaq _ hp))
def Z5F(hp:PassesOwn (model X.prog X.w) X.A X.env X.xe)(hc:X.calm=true)(hi:PI X tg iter wi)(Q:PG X tg g)(p:PSs X body tb)
  (hs:∀x,foldedSetIterable iter X.env x=pure x:=by intro _;rfl):PS X (.For tg iter body [] pos) (ZbQ wi g tb):=by
 intro pins s σ H D I h;refine wpAny_For (thn (hi pins s σ H _ I h) λv s1 h1=>thn h1 λitv s2 h2=>?_) hs;obtain⟨it,fp,G,J,Z,e,I2,T,K,L,W,⟨R,P⟩,C⟩:=h2;subst e
 -- what stays true of the iterator's objects through the loop
 have t:∀{H':Hp},(∀b∈fp,H' b=none)->∀b∈fp,C1 X pins H' b:=λhn b p=>⟨hn b p,(L b p).2⟩;refine codeAny_forLoop_any (λn s'=>∃i σ' H',Inv X pins σ' H' s'/\G i s'.heap/\(∀b∈fp,H' b=none)/\W i n σ' H') ?_ R ⟨0,σ,Z,I2,K,λb p=>(L b p).1,P⟩;rintro n s3 ⟨i,σ3,H3,I3,st3,fr3,w3⟩;rcases C i n σ3 H3 w3 with⟨E,S⟩|⟨Y,N,U,step⟩
 .refine wpAny_passesOwn hp (thn (T.done X rfl rfl rfl hc i pins s3 σ3 H3 X.xe I3 (t fr3) st3 E) λr s4 ⟨hr,I4⟩=>?_);subst hr;exact wpAny_execs_nil ⟨σ3,H3,I4,S⟩
 .refine wpAny_passesOwn hp (thn (T.item X rfl rfl rfl hc i pins s3 σ3 H3 X.xe I3 (t fr3) st3 Y) λr s4 ⟨u,hr,h4⟩=>?_);subst hr;refine wpAny_passesOwn hp (thn h4 λ_ s5 ⟨x,H5,I5,r5,y5,st5,fr5⟩=>?_);have F:=I5.pinned (t fr5) (T.obj _ _ st5);refine wpAny_passesOwn hp (thn (Q _ s5 σ3 H5 x u _ F r5 (step x H5 y5)) λ_ s6 ⟨σ6,H6,I6,q6⟩=>?_);refine wpAny_passesOwn hp (thn (p _ s6 σ6 H6 _ I6 q6) λf s7 q=>?_);have y:∀{a:St}{j:Hp},Inv X (pins++yD fp s5.heap) a j s7->N a j->∃m,m<n/\∃i σ' H',Inv X pins σ' H' s7/\G i s7.heap/\(∀b∈fp,H' b=none)/\W i m σ' H':=λ{a j} l B=>by
   obtain⟨m',O,w7⟩:=U a j B;refine⟨m',O,i+1,a,j,l.unpinned,T.keep _ _ _ st5 λb p o e=>(l.pin (b,o) (Qag _ (Qag _ (mY p e)))).1,λb p=>?_,w7⟩;obtain⟨o,e,d⟩:=T.obj _ _ st5 b p;exact(l.pin (b,o) (Qag _ (Qag _ (mY p e)))).2.1
  cases f with
  |next=>obtain⟨a,j,l,B⟩:=q;exact y l B
  |cont=>obtain⟨a,j,l,B⟩:=q;exact y l B
  |brk=>obtain⟨a,j,l,q⟩:=q;exact⟨a,j,l.unpinned,q⟩
  |ret v=>obtain⟨M,a,j,l,r7,q⟩:=q;exact⟨M,a,j,l.unpinned,r7,q⟩
end
abbrev R2:=V->V->Hp->VK->Prop
def OpR(X:Cx)(f:Ad->Ad->Sem Ad)(r:R2):Prop :=
 ∀(pins:Ab (Af×Obj)) (s:Ac) (σ:St) (H:Hp) (x y:V) (v u:Ad) (Q:VK),Inv X pins σ H s->RelV x v->RelV y u->r x y H Q ->
  wpAny (model X.prog X.w) X.A (f v u) (EP X pins σ Q) X.xe s
def UnR(X:Cx)(f:Ad->Sem Ad)(r:V->Hp->VK->Prop):Prop :=
 ∀(pins:Ab (Af×Obj)) (s:Ac) (σ:St) (H:Hp) (x:V) (v:Ad) (Q:VK),Inv X pins σ H s->RelV x v->r x H Q ->
  wpAny (model X.prog X.w) X.A (f v) (EP X pins σ Q) X.xe s
def CallR(X:Cx)(f:Ad)(r:Ab V->Hp->VK->Prop):Prop :=
 ∀(pins:Ab (Af×Obj)) (s:Ac) (σ:St) (H:Hp) (xs:Ab V) (us:Ab Ad) (Q:VK),Inv X pins σ H s->Vals xs us->r xs H Q ->
  wpAny (model X.prog X.w) X.A (call f us) (EP X pins σ Q) X.xe s
def tOp(r:R2)(ta tb:TE):TE:=λσ H Q=>ta σ H λx H1=>tb σ H1 λy H2=>r x y H2 Q
def tUn(r:V->Hp->VK->Prop)(ta:TE):TE:=λσ H Q=>ta σ H λx H1=>r x H1 Q
def rI(C:Int->Int->Prop)(g:Int->Int->V):R2:=λx y H Q=>∃i j,x=.int i/\y=.int j/\C i j/\Q (g i j) H
def rI0(g:Int->Int->V):R2:=λx y H Q=>∃i j,x=.int i/\y=.int j/\Q (g i j) H
def rU(g:Int->V):V->Hp->VK->Prop:=λx H Q=>∃i,x=.int i/\Q (g i) H
section
variable {X:Cx}{a b:Ag}{ta tb:TE}{pos:Pos}
def Zau(i:PE X a ta)(j:PE X b tb){pins:Ab (Af×Obj)}{s:Ac}{σ:St}{H:Hp}{R:V->V->Hp->Prop}(I:Inv X pins σ H s)
  (h:ta σ H λx H1=>tb σ H1 λy H2=>R x y H2) {Q:Ad->Ac->Prop}{f:Ad->Ad->Sem Ad}
  (e:∀v u s2 x y H2,Inv X pins σ H2 s2->RelV x v->RelV y u->R x y H2->wpAny (model X.prog X.w) X.A (f v u) Q X.xe s2) :
  wpAny (model X.prog X.w) X.A (eval a X.env) (λv s₁=>wpAny (model X.prog X.w) X.A (eval b X.env) (λu s₂=>wpAny (model X.prog X.w) X.A (f v u) Q X.xe s₂) X.xe s₁) X.xe s:=by
 refine thn (i pins s σ H _ I h) λv s1 ⟨x,H1,I1,r1,q1⟩=>?_;refine thn (j pins s1 σ H1 _ I1 q1) λu s2 ⟨y,H2,I2,r2,q2⟩=>?_;exact e v u s2 x y H2 I2 r1 r2 q2
def pe_op(e:OpR X (binaryOp op) r)(f:PE X a ta)(i:PE X b tb):PE X (.BinOp a op b pos) (tOp r ta tb):=by
 intro pins s σ H Q I h;exact wpAny_BinOp (Zau f i I h λv u s2 x y H2 I2 rx ry q=>e pins s2 σ H2 x y v u Q I2 rx ry q)
def pe_un(b:UnR X (unaryOp op) r)(e:PE X a ta):PE X (.UnaryOp op a pos) (tUn r ta):=by
 intro pins s σ H Q I h;exact UnaryOp_ (thn (e pins s σ H _ I h) λv s1 ⟨x,H1,I1,r1,q1⟩=>b pins s1 σ H1 x v Q I1 r1 q1)
def opI{f:Ad->Ad->Sem Ad}{C:Int->Int->Prop}{g:Int->Int->Int}
  (rule:∀(i j:Int) (t u:Tok) (s:Ac) (Q:Ad->Ac->Prop) (E:Ad->Ac->Prop),C i j->Q (.int (g i j) s.toks) { s with toks:=s.toks+1 }->wpAny (model X.prog X.w) X.A (f (.int i t) (.int j u)) Q E s) :
  OpR X f (rI C λi j=>.int (g i j)):=by
 intro pins s σ H x y v u Q I a b h;obtain⟨i,j,rfl,rfl,hc,q⟩:=h;obtain⟨t,rfl⟩:=a;obtain⟨t',rfl⟩:=b;exact rule i j t t' s _ _ hc ⟨.int (g i j),H,I.tok _,⟨_,rfl⟩,q⟩
def Z5S{f:Ad->Ad->Sem Ad}{g:Int->Int->Int}
  (rule:∀(i j:Int) (t u:Tok) (s:Ac) (Q:Ad->Ac->Prop) (E:Ad->Ac->Prop),Q (.int (g i j) s.toks) { s with toks:=s.toks+1 }->wpAny (model X.prog X.w) X.A (f (.int i t) (.int j u)) Q E s) :
  OpR X f (rI0 λi j=>.int (g i j)):=by
 intro pins s σ H x y v u Q I a b h;obtain⟨i,j,rfl,rfl,q⟩:=h;obtain⟨t,rfl⟩:=a;obtain⟨t',rfl⟩:=b;exact rule i j t t' s _ _ ⟨.int (g i j),H,I.tok _,⟨_,rfl⟩,q⟩
def Za7{f:Ad->Ad->Sem Ad}{g:Int->Int->Bool}
  (rule:∀(i j:Int) (t u:Tok) (s:Ac) (Q:Ad->Ac->Prop) (E:Ad->Ac->Prop),Q (.bool (g i j)) s->wpAny (model X.prog X.w) X.A (f (.int i t) (.int j u)) Q E s) :
  OpR X f (rI0 λi j=>.bl (g i j)):=by
 intro pins s σ H x y v u Q I a b h;obtain⟨i,j,rfl,rfl,q⟩:=h;obtain⟨t,rfl⟩:=a;obtain⟨t',rfl⟩:=b;exact rule i j t t' s _ _ ⟨.bl (g i j),H,I,rfl,q⟩
def Zay(i j:Int):Prop:=0<=j/\j<=1000000/\i.natAbs<2^64
def Z0H(k:Nat):(0:Int)<=2^k:=by
 rw[two_pow_cast];exact Int.natCast_nonneg _
def dZ:OpR X (binaryOp .Add) (rI0 λi j=>.int (i+j)):=Z5S λ_ _ _ _ _ _ _ q=>add_int q
def cW:OpR X (binaryOp .Sub) (rI0 λi j=>.int (i-j)):=Z5S λ_ _ _ _ _ _ _ q=>sub_int q
def cP:OpR X (binaryOp .Mod) (rI (λ_ j=>0<j) λi j=>.int (i%j)):=opI λi j _ _ _ _ _ hc q=>by
 have h1:(0:Int)<j:=hc;exact mod_int' (by omega) (by rw[Int.fmod_eq_emod_of_nonneg i (by omega)];exact q)
def Z5O:OpR X (binaryOp .Pow) (rI Zay λi j=>.int (i^j.toNat)):=opI λ_ _ _ _ _ _ _ hc q=>pow_int_small hc.1 hc.2.1 hc.2.2 q
def Z5N:OpR X (binaryOp .RShift) (rI (λ_ j=>0<=j) λi j=>.int (i/2^j.toNat)):=opI λi j _ _ _ _ _ hc q =>
 rshift_int hc (by rw[Int.fdiv_eq_ediv_of_nonneg i (Z0H _)];exact q)
def N1:OpR X (binaryOp .BitAnd) (rI0 λi j=>.int (Builtin.bitAnd i j)):=Z5S λ_ _ _ _ _ _ _ q=>and_int q
def X8:OpR X (binaryOp .BitOr) (rI0 λi j=>.int (Builtin.bitOr i j)):=Z5S λ_ _ _ _ _ _ _ q=>or_int q
def Z18:OpR X (binaryOp .BitXor) (rI0 λi j=>.int (Builtin.bitXor i j)):=Z5S λ_ _ _ _ _ _ _ q=>xor_int q
def unI{f:Ad->Sem Ad}{g:Int->Int}
  (rule:∀(i:Int) (t:Tok) (s:Ac) (Q:Ad->Ac->Prop) (E:Ad->Ac->Prop),Q (.int (g i) s.toks) { s with toks:=s.toks+1 }->wpAny (model X.prog X.w) X.A (f (.int i t)) Q E s) :
  UnR X f (rU λi=>.int (g i)):=by
 intro pins s σ H x v Q I a h;obtain⟨i,rfl,q⟩:=h;obtain⟨t,rfl⟩:=a;exact rule i t s _ _ ⟨.int (g i),H,I.tok _,⟨_,rfl⟩,q⟩
def Z4N:UnR X (unaryOp .USub) (rU λi=>.int (-i)):=unI λ_ _ _ _ _ q=>neg_int q
end
section
variable {X:Cx}{a b c:Ag}{ta tb:TE}{pos:Pos}
def Z1x(I:Inv X pins σ H s)(q:Q (.bl k) H)(e:k=k'):EP X pins σ Q (.bool k') s:=by
 subst e;exact⟨.bl k,H,I,rfl,q⟩
def Zb7:OpR X (compareOp .Lt) (rI0 λi j=>.bl (decide (i<j))):=Za7 λ_ _ _ _ _ _ _ q=>lt_int q
def Zb8:OpR X (compareOp .Gt) (rI0 λi j=>.bl (decide (j<i))):=Za7 λ_ _ _ _ _ _ _ q=>gt_int q
def Zb9:OpR X (compareOp .GtE) (rI0 λi j=>.bl (decide (j<=i))):=Za7 λ_ _ _ _ _ _ _ q=>ge_int q
def Z3P:OpR X (compareOp .In) (λx y H Q=>∃i j,x=.str i/\y=.str j/\Q (.bl (!(Builtin.Str.occurrences j i 0 j.length 1).isEmpty)) H):=by
 intro pins s σ H x y v u Q I a b h;obtain⟨i,j,rfl,rfl,q⟩:=h;obtain⟨t,rfl⟩:=a;obtain⟨t',rfl⟩:=b;exact in_str (Z1x I q rfl)
def Za6:OpR X (compareOp .Is) (λx y H Q=>y=.non/\Q (.bl (decide (x=.non))) H):=by
 intro pins s σ H x y v u Q I a b h;obtain⟨rfl,q⟩:=h;cases b;refine is_none_gen (Z1x I q ?_);cases x<;>first
  |(cases a;rfl)
  |(obtain⟨t,rfl⟩:=a;rfl)
def Z88:OpR X (compareOp .IsNot) (λx y H Q=>y=.non/\Q (.bl (!decide (x=.non))) H):=by
 intro pins s σ H x y v u Q I a b h;obtain⟨rfl,q⟩:=h;cases b;refine isnot_none_gen (Z1x I q ?_);cases x<;>first
  |(cases a;rfl)
  |(obtain⟨t,rfl⟩:=a;rfl)
def lC(b:Ag){a:CmpOp}(h:a ≠ .In:=by decide)(i:a ≠ .NotIn:=by decide):behindInMarks a b=false:=by
 have f:(a==CmpOp.In)=false:=by cases a<;>first|rfl|exact absurd rfl h
 have e:(a==CmpOp.NotIn)=false:=by cases a<;>first|rfl|exact absurd rfl i
 cases b<;>simp[behindInMarks,f,e]
def N0(f:OpR X (compareOp op) r)(i:PE X a ta)(j:PE X b tb)(e:behindInMarks op b=false):PE X (.Compare a [op] [b] pos) (tOp r ta tb):=by
 intro pins s σ H Q I h;exact wpAny_Compare1 (Zau i j I h λv u s2 x y H2 I2 rx ry q=>f pins s2 σ H2 x y v u Q I2 rx ry q) e
def ZaD(t:TE):TT:=λσ H Q=>t σ H λx H'=>∃k,x=.bl k/\Q k H'
def Z2j(i:OpR X (compareOp op) r)(j:PE X a ta)(l:PE X b tb)(f:behindInMarks op b=false):PT X (.Compare a [op] [b] pos) (ZaD (tOp r ta tb)):=by
 intro pins s σ H Q I h;refine wpAny_isTrue_Compare1 (thn (j pins s σ H _ I h) λv s1 ⟨x,H1,I1,r1,q1⟩=>thn (l pins s1 σ H1 _ I1 q1) λu s2 ⟨y,H2,I2,r2,q2⟩ =>
  thn (i pins s2 σ H2 x y v u _ I2 r1 r2 q2) λc s3 ⟨z,H3,I3,r3,k,e,q3⟩=>?_) f
 subst e;cases r3;exact wpAny_truthy_bool ⟨H3,I3,q3⟩
def tT:(sizeLine:Nat)<2^63:=by rw[sizeLine_eq];decide
def nQ(r:Vals [x] us):∃u,us=[u]/\RelV x u:=by
 cases r with
 |cons r1 r2=>cases r2;exact⟨_,rfl,r1⟩
def Z8Q(r:Vals [x,y] us):∃u w',us=[u,w']/\RelV x u/\RelV y w':=by
 cases r with
 |cons r1 r2 =>
  cases r2 with
  |cons r3 r4=>cases r4;exact⟨_,_,rfl,r1,r3⟩
def Z4i(hc:X.calm=true):CallR X (.builtin "max") (λxs H Q=>∃i j,xs=[.int i,.int j]/\Q (.int (if j > i then j else i)) H):=by
 intro pins s σ H xs us Q I r h;obtain⟨i,j,rfl,q⟩:=h;obtain⟨u,w',rfl,⟨t,rfl⟩,⟨t',rfl⟩⟩:=Z8Q r;refine max_two_ints (I.ok.hd hc) λh' tk k=>⟨_,H,I.kept k,?_,q⟩;by_cases a:j > i
 .rw[if_pos a,if_pos a];exact⟨_,rfl⟩
 .rw[if_neg a,if_neg a];exact⟨_,rfl⟩
def Z4h(hc:X.calm=true):CallR X (.builtin "min") (λxs H Q=>∃i j,xs=[.int i,.int j]/\Q (.int (if j<i then j else i)) H):=by
 intro pins s σ H xs us Q I r h;obtain⟨i,j,rfl,q⟩:=h;obtain⟨u,w',rfl,⟨t,rfl⟩,⟨t',rfl⟩⟩:=Z8Q r;refine min_two_ints (I.ok.hd hc) λh' tk k=>⟨_,H,I.kept k,?_,q⟩;by_cases a:j<i
 .rw[if_pos a,if_pos a];exact⟨_,rfl⟩
 .rw[if_neg a,if_neg a];exact⟨_,rfl⟩
def Z4k:CallR X (.type "int") (λxs H Q=>(∃i,xs=[.int i]/\Q (.int i) H)\/∃k,xs=[.bl k]/\Q (.int (if k then 1 else 0)) H):=by
 intro pins s σ H xs us Q I r h;rcases h with⟨i,rfl,q⟩|⟨k,rfl,q⟩
 .obtain⟨u,rfl,t,rfl⟩:=nQ r;exact call_int_int ⟨.int i,H,I,⟨_,rfl⟩,q⟩
 .obtain⟨u,rfl,a⟩:=nQ r;cases a;exact call_int_bool ⟨.int (if k then 1 else 0),H,I.tok _,⟨_,rfl⟩,q⟩
def sL:CallR X (.type "str") (λxs H Q=>∃i,xs=[.int i]/\i.natAbs.log2<1920/\Q (.str (toString i)) H):=by
 intro pins s σ H xs us Q I r h;obtain⟨i,rfl,a,q⟩:=h;obtain⟨u,rfl,t,rfl⟩:=nQ r;exact PySem.P.str_of_int a ⟨.str _,H,I.tok _,⟨_,rfl⟩,q⟩
end
structure ObjM(h:Heap)(x dx C:Addr)(mA:Str->Option Value):Prop where
 obj:h.get? x=some (PySem.W.instObj C dx)
 ns:h.Ns1 dx mA
 ne:dx≠x
def Z3V{h:Ah}{dx:Af}{mA:Str->Aa Ad}(n:h.Ns1 dx mA):∃od,h.get? dx=some od/\∀name,PySem.W.lookIn name od=some (mA name):=by
 obtain⟨o,es,ep,i,hd,p,_,j⟩:=n;refine⟨o,i,λname=>?_⟩;have e:=j name;unfold nsFind findBy at e;rw[<- Array.find?_toList]at e;unfold PySem.W.lookIn;rw[hd];dsimp only;split
 .rename_i y q;rw[q]at e;exact congrArg some e
 .rename_i q;rw[q]at e;have a:es.toList.any (·.refKey)=false:=by
   rw[List.any_eq_false];intro y l;obtain⟨z,t,b⟩:=p y (Array.mem_toList_iff.mp l);simp[DictEntry.refKey,b]
  have f:¬es.toList.any (·.refKey)=true:=by rw[a];exact Qbb
  rw[if_neg f];exact congrArg some e
def ObjM.look(I:ObjM h x dx C mA):∃od,PySem.W.InstAt h x (PySem.W.instObj C dx) C (some od)/\∀name,PySem.W.lookIn name od=some (mA name) :=
 let ⟨od,ho,hl⟩:=Z3V I.ns
 ⟨od,⟨I.obj,rfl,rfl,ho⟩,hl⟩
section
variable {prog:Aj}{w:Ak}{A:Ai}{E:Ad->Ac->Prop}{s:Ac}{K:Frag}{x dx C f:Af}{mA:Str->Aa Ad}{name:Str}{v:Ad}
def Z8u(X:K.In s.heap)(I:ObjM s.heap x dx C mA)(e:PySem.W.plainGet K C name=true)(f:PySem.W.hasDictIn K C=true)
  (i:PySem.W.findIn K (.ref C) name=some none) (j:mA name=some v) (a:PySem.W.handedIn v=true) (h:Q v { s with toks:=s.toks+1 }) :
  wpAny (model prog w) A (getAttr (.ref x) name expr) Q E s:=by
 obtain⟨l,J,b⟩:=I.look;exact PySem.W.get_value X J (PySem.W.plainGet_of e).1 (PySem.W.findObj_own f i rfl (by rw[b,j])) a h
def Z6p(X:K.In s.heap)(I:ObjM s.heap x dx C mA)(a:PySem.W.plainGet K C name=true)
  (i:PySem.W.findIn K (.ref C) name=some (some (.ref f))) (j:PySem.W.isFn K (.ref f)=true) (l:mA name=none) (h:Q (.ref f,[.ref x]) s) :
  wpAny (model prog w) A (getMethod (.ref x) name pl) Q E s:=by
 obtain⟨b,J,e⟩:=I.look;exact PySem.W.method_fn X J (PySem.W.plainGet_of a).1 (PySem.W.plainGet_of a).2 i (beq_iff_eq.mp j) (by show(PySem.W.lookIn name b).map (·.isSome)=some false;rw[e,l];rfl) h
def Z7s(X:K.In s.heap)(I:ObjM s.heap x dx C mA)
  (hs:PySem.W.findIn K (.ref C) "__setattr__" = some (some (.builtin "object.__setattr__"))) (hp:PySem.W.plainOver K C=true) (l:PySem.W.takerIn K C name=some none) (o:PySem.W.hasDictIn K C=true)
  (hw:PySem.Within mA ns) (hsz:ns.length<=sizeLine)
  (h:∀h',ObjM h' x dx C (λy=>if y=name then some v else mA y)->Heap.SameBut dx s.heap h'->Q () { s with heap:=h',toks:=s.toks+2 }) :
  wpAny (model prog w) A (setAttr (.ref x) name v) Q E s:=by
 obtain⟨B,J,F⟩:=I.look;refine PySem.W.set_plain X J hs (PySem.W.osa_open (s:={ s with toks:=s.toks+1 }) (r:=none) X J hp l λb=>?_);obtain⟨t,hc,e⟩:=PySem.W.any_some o;have n:s.heap.get? x=some ⟨.ref C,some dx,.plain,#[]⟩:=I.obj;refine Ra (Rb (Ra (Ra (wpAny_loadPart n (Ra (PySem.W.Looks.here (s:={ s with toks:=s.toks+1 }) (PySem.W.looks_clsIn X hc) ?_))))));rw[e];refine Rb (a:=some dx) (Ra (Rb (Ra ?_)));refine wpAny_nsSet1 (s:={ s with toks:=s.toks+1 }) I.ns λh' hn2 hs2=>?_;obtain⟨u,p,q,f,i,j⟩:=hn2.count (PySem.Within.cons name v hw);refine Ra (wpAny_lookBehind f (by rw[i];exact pastItsLine_dict (QaC j (by rw[Qaf];omega))) ?_);exact Rb (h _ ⟨(hs2.2 _ (Ne.symm I.ne)).trans I.obj,hn2,I.ne⟩ hs2)
def Z64(X:K.In s.heap)(b:PySem.W.makesIn K C=true)
  (hi:PySem.W.findIn K (.ref C) "__init__" = some (some (.ref f))) (e:PySem.W.typeIn K (.ref f)=some (.type "function"))
  (h:codeAny (model prog w) (A.under (.builtin "type.__call__" ⟨.ref C :: vs,kw⟩)) (.call (.ref f) ⟨.ref (s.heap.objs.size + 1) :: vs,kw⟩) (PySem.W.InitBack (s.heap.objs.size + 1) R)
   { s with heap:=(s.heap.push PySem.W.emptyDict).push (PySem.W.instObj C s.heap.objs.size) }) :
  codeAny (model prog w) A (.call (.ref C) ⟨vs,kw⟩) R s:=by
 obtain⟨i,g,d,t,os⟩:=s;exact PySem.W.make_core (PySem.W.makes_of X b) (PySem.W.looks_findIn X hi) (λa=>PySem.W.bind_fn X a e) (.inl rfl) h
end
def jV(f:Str)(v:V):Ab (Str×V)->Ab (Str×V)
 |[]=>[(f,v)]
 |(g,x)::r=>if g=f then(g,v)::r else(g,x)::jV f v r
theorem vA(f g:Str)(v:V):∀fs:Ab (Str×V),(jV f v fs).lookup g=if g=f then some v else fs.lookup g
 |[]=>by
  show List.lookup g [(f,v)]=_;by_cases h:g=f
  .have a:(g==f)=true:=beq_iff_eq.mpr h;simp only[List.lookup,a,if_pos h]
  .have a:(g==f)=false:=beq_eq_false_iff_ne.mpr h;simp only[List.lookup,a,if_neg h]
 |(k,x)::r=>by
  have i:=vA f g v r;rw[show jV f v ((k,x)::r)=(if k=f then(k,v)::r else(k,x)::jV f v r) from rfl]
  by_cases b:k=f
  .rw[if_pos b];by_cases h:g=k
   .have a:(g==k)=true:=beq_iff_eq.mpr h;simp only[List.lookup,a,if_pos (h.trans b)]
   .have a:(g==k)=false:=beq_eq_false_iff_ne.mpr h;simp only[List.lookup,a,if_neg (λe:g=f=>h (e.trans b.symm))]
  .rw[if_neg b];by_cases h:g=k
   .have a:(g==k)=true:=beq_iff_eq.mpr h;simp only[List.lookup,a,if_neg (λe:g=f=>b (h.symm.trans e))]
   .have a:(g==k)=false:=beq_eq_false_iff_ne.mpr h;simp only[List.lookup,a];exact i
theorem tW(f:Str)(v:V):∀fs:Ab (Str×V),f∈(jV f v fs).map (·.1)/\∀g,g∈fs.map (·.1)->g∈(jV f v fs).map (·.1)
 |[]=>⟨by simp[jV],λg h=>by simp at h⟩
 |(k,x)::r=>by
  obtain⟨i1,i2⟩:=tW f v r;rw[show jV f v ((k,x)::r)=(if k=f then(k,v)::r else(k,x)::jV f v r) from rfl]
  by_cases a:k=f
  .rw[if_pos a];subst a;exact⟨by simp,λg h=>by simpa using h⟩
  .rw[if_neg a];refine⟨?_,λg h=>?_⟩
   .rw[Qak];exact Qab _ i1
   .rw[Qak]at h ⊢;rcases Qad.mp h with e|e
    .exact Qad.mpr (.inl e)
    .exact Qab _ (i2 g e)
theorem vC(f:Str)(v:V):∀fs:Ab (Str×V),(jV f v fs).length<=fs.length+1
 |[]=>by simp[jV]
 |(k,x)::r=>by
  have b:=vC f v r;rw[show jV f v ((k,x)::r)=(if k=f then(k,v)::r else(k,x)::jV f v r) from rfl]
  by_cases a:k=f
  .rw[if_pos a,Qaf,Qaf];omega
  .rw[if_neg a,Qaf,Qaf];omega
def RelO.some_of(r:RelO (some v) o):∃u,o=some u/\RelV v u:=by
 cases o with
 |none=>exact(show False from r).elim
 |some u=>exact⟨u,rfl,r⟩
def RelO.none_of(r:RelO none o):o=none:=by
 cases o with
 |none=>rfl
 |some u=>exact(show False from r).elim
def Z42(r:RelV v u):PySem.W.handedIn u=true:=by
 cases v with
 |non=>cases (show u=Value.none from r);rfl
 |bl b=>cases (show u=Value.bool b from r);rfl
 |int i=>obtain⟨t,e⟩:=(show ∃t,u=Value.int i t from r);cases e;rfl
 |str x=>obtain⟨t,e⟩:=(show ∃t,u=Value.str x t from r);cases e;rfl
 |byt b=>obtain⟨t,e⟩:=(show ∃t,u=Value.bytes b t from r);cases e;rfl
 |flt b=>obtain⟨t,e⟩:=(show ∃t,u=Value.float b t from r);cases e;rfl
 |ref a=>cases (show u=Value.ref a from r);rfl
 |ty n=>cases (show u=Value.type n from r);rfl
section
variable {P:Aj}{w:Ak}{H:Hp}{h:Ah}{a C dx:Af}{fs:Ab (Str×V)}
def O8(b:HOk P w H h)(e:H a=some (.ins C dx fs)):∃mA,ObjM h a dx C mA/\(∀f,RelO (fs.lookup f) (mA f))/\PySem.Within mA (fs.map (·.1))/\fs.length<=1000/\H dx=some (.own a):=by
 obtain⟨d,z,i,j,mA,n,r,q⟩:=(show ObjOk P w H h a (.ins C dx fs) from b a _ e)
 exact⟨mA,⟨j,n,i⟩,r,q,z,d⟩
end
structure Cls(K:Frag)(C:Addr):Prop where
 pg:PySem.W.plainGet K C Str.empty=true
 hd:PySem.W.hasDictIn K C=true
 po:PySem.W.plainOver K C=true
 sa:PySem.W.findIn K (.ref C) "__setattr__" = some (some (.builtin "object.__setattr__"))
def Cls.get{K:Frag}{C:Af}(c:Cls K C)(f:Str):PySem.W.plainGet K C f=true:=c.pg
def NoAttr(K:Frag)(C:Af)(f:Str):Prop:=PySem.W.findIn K (.ref C) f=some none
def NoAttr.taker{K:Frag}{C:Af}{f:Str}(n:NoAttr K C f):PySem.W.takerIn K C f=some none:=by
 unfold PySem.W.takerIn;rw[show PySem.W.findIn K (.ref C) f=some none from n]
 rfl
structure Con(K:Frag)(C:Addr)(f:Str)(v:V)(u:Value):Prop where
 at_:PySem.W.findIn K (.ref C) f=some (some u)
 rel:RelV v u
 get:PySem.W.specialIn K u "__get__" = some none
 cp:PySem.W.copiedNames.contains f=false
structure Zav(K:Frag)(C:Addr)(m:Str)(f:Addr):Prop where
 at_:PySem.W.findIn K (.ref C) m=some (some (.ref f))
 fn:PySem.W.isFn K (.ref f)=true
 kp:keepIn K (.ref f)=true
section
variable {X:Cx}{pins:Ab (Af×Obj)}{σ:St}{H:Hp}{s:Ac}{a C dx:Af}{fs:Ab (Str×V)}{f:Str}{v:V}{A:Ai}{E:Ad->Ac->Prop}
def Z1q(I:Inv X pins σ H s)(e:H a=some (.ins C dx fs))(c:Cls X.K C)(n:NoAttr X.K C f)(l:fs.lookup f=some v)
  (h:∀u s',Inv X pins σ H s'->RelV v u->Q u s'):wpAny (model X.prog X.w) A (getAttr (.ref a) f b) Q E s:=by
 obtain⟨mA,O,r,_,_,_⟩:=O8 I.hok e;obtain⟨u,j,i⟩:=RelO.some_of (v:=v) (o:=mA f) (by rw[<- l];exact r f);exact Z8u I.kIn O (c.get f) c.hd n j (Z42 i) (h u _ (I.tok _) i)
def Z1p(I:Inv X pins σ H s)(e:H a=some (.ins C dx fs))(c:Cls X.K C)(k:Zav X.K C m g)(l:fs.lookup m=none)
  (h:Q (.ref g,[.ref a]) s):wpAny (model X.prog X.w) A (getMethod (.ref a) m pl) Q E s:=by
 obtain⟨mA,O,r,_,_,_⟩:=O8 I.hok e;have b:mA m=none:=RelO.none_of (by rw[<- l];exact r m);exact Z6p I.kIn O (c.get m) k.at_ k.fn b h
def Z0S(I:Inv X pins σ H s)(e:H a=some (.ins C dx fs))(c:Cls X.K C)(n:NoAttr X.K C f)(t:fs.length<1000)(l:RelV y u)
  (h:∀s',Inv X pins σ (upd H a (.ins C dx (jV f y fs))) s'->Q () s'):wpAny (model X.prog X.w) A (setAttr (.ref a) f u) Q E s:=by
 obtain⟨mA,O,r,i,_,j⟩:=O8 I.hok e;have p:(fs.map (·.1)).length<=sizeLine:=by rw[Qaa,sizeLine_eq];omega
 refine Z7s I.kIn O c.sa c.po n.taker c.hd i p λh' O' sb=>h _ ?_;have hd:∃o,h'.get? dx=some o:=let ⟨o,_,_,e',_⟩:=O'.ns;⟨o,e'⟩;refine I.write (x:=a) (e:=dx) (by rw[e];exact True.intro) (.inr j) (λb q hb z=>(sb.2 b hb).trans z) hd ?_;refine⟨by rw[aY O.ne];exact j,?_,O.ne,O'.obj,_,O'.ns,λg=>?_,λg hg=>?_⟩
 .have:=vC f y fs;omega
 .show RelO ((jV f y fs).lookup g) (if g=f then some u else mA g);rw[vA];by_cases q:g=f
  .rw[if_pos q,if_pos q];exact l
  .rw[if_neg q,if_neg q];exact r g
 .by_cases q:g=f
  .rw[q];exact(tW f y fs).1
  .refine(tW f y fs).2 g (i g λz=>hg ?_);show(if g=f then some u else mA g)=none;rw[if_neg q];exact z
def Inv.made(I:Inv X pins σ H s):Inv X pins σ (upd (upd H s.heap.objs.size (.own (s.heap.objs.size+1))) (s.heap.objs.size+1) (.ins C s.heap.objs.size []))
  { s with heap:=(s.heap.push PySem.W.emptyDict).push (PySem.W.instObj C s.heap.objs.size) }:=by
 have h:(s.heap.push PySem.W.emptyDict).get? s.heap.objs.size=some PySem.W.emptyDict:=Qap s.heap rfl;have j:((s.heap.push PySem.W.emptyDict).push (PySem.W.instObj C s.heap.objs.size)).get? (s.heap.objs.size+1)=some (PySem.W.instObj C s.heap.objs.size):=by
  have:=Qap (s.heap.push PySem.W.emptyDict) (o:=PySem.W.instObj C s.heap.objs.size) rfl
  rwa [Qbu]at this
 have i:(s.heap.push PySem.W.emptyDict).Ns s.heap.objs.size (λ_=>none):=⟨PySem.W.emptyDict,#[],_,h,rfl,(λe he=>absurd he (by simp)),λ_=>rfl⟩;have l:=I.laid (a:=s.heap.objs.size) (o:=.own (s.heap.objs.size+1)) (h':=s.heap.push PySem.W.emptyDict) (t':=s.toks) (λb u q=>Qac _ q) (Qan _) ⟨_,h⟩;refine l.laid (a:=s.heap.objs.size+1) (o:=.ins C s.heap.objs.size []) (t':=s.toks) (λb u q=>Qac _ q) (Nat.le_of_eq (Qbu _ _)) ?_;have f:s.heap.objs.size≠s.heap.objs.size+1:=QaM (Nat.lt_succ_self _);refine⟨by rw[aY f,bG],Qa2 _,f,j,λ_=>none,(Heap.Ns1.of_empty i).at λo q=>Qac _ q,λ_=>True.intro,λy hy=>absurd rfl hy⟩
def Z8J(a:attributeBase e f env (eval e env)=eval e env)
  (h:wpAny (model prog w) A (eval e env) (λo s₁=>wpAny (model prog w) A (getAttr o f true) Q E s₁) E s):wpAny (model prog w) A (eval (.Attribute e f pos) env) Q E s :=
 Attribute_any_ h (by rw[arm_eval_Attribute,a])
end
def ZbR(K:Frag)(ta:TE)(f:Str):TE:=λσ H Q=>ta σ H λx H1=>∃a C dx fs v,x=.ref a/\H1 a=some (.ins C dx fs)/\Cls K C/\NoAttr K C f/\fs.lookup f=some v/\Q v H1
def Z57(K:Frag)(ta tv:TE)(f:Str):TS:=λD σ H=>tv σ H λy H1=>ta σ H1 λx H2=>∃a C dx fs,x=.ref a/\H2 a=some (.ins C dx fs)/\Cls K C/\NoAttr K C f/\fs.length<1000 /\
 D.nx σ (upd H2 a (.ins C dx (jV f y fs)))
section
variable {X:Cx}{o e value:Ag}{f:Str}{pos pos':Pos}{ta tv:TE}
def Za3(he:PE X e ta)(b:attributeBase e f X.env (eval e X.env)=eval e X.env):PE X (.Attribute e f pos) (ZbR X.K ta f):=by
 intro pins s σ H Q I h;refine Z8J b (thn (he pins s σ H _ I h) λu s1 ⟨x,H1,I1,rx,a,C,dx,fs,v,ex,ea,c,n,l,q⟩=>?_);subst ex;obtain rfl:u=Value.ref a:=rx;exact Z1q I1 ea c n l λu' s2 I2 ru=>⟨v,H1,I2,ru,q⟩
def yC(b:PE X o ta)(e:PE X value tv)(hs:swapsWith value (some (.Attribute o f pos')) pos.line X.env=pure false):PS X (.Assign [.Attribute o f pos'] value pos) (Z57 X.K ta tv f):=by
 intro pins s σ H D I h;refine plainObj_wpAny_Assign_Attribute (thn (e pins s σ H _ I h) λu s1 ⟨y,H1,I1,ry,q⟩=>thn (b pins s1 σ H1 _ I1 q) λov s2 ⟨x,H2,I2,rx,a,C,dx,fs,ex,ea,c,n,l,q2⟩=>?_) hs;subst ex;obtain rfl:ov=Value.ref a:=rx;exact Z0S I2 ea c n l ry λs3 I3=>⟨σ,_,I3,q2⟩
end
section
variable {H:Hp}
inductive zR(K:Frag)(H:Hp):V->Value->Prop where
 |non:zR K H .non (.type "NoneType")
 |bl (x:Bool):zR K H (.bl x) (.type "bool")
 |int (i:Int):zR K H (.int i) (.type "int")
 |str (x:Str):zR K H (.str x) (.type "str")
 |flt (x:UInt64):zR K H (.flt x) (.type "float")
 |lst {a:Addr}{xs:List V}(e:H a=some (.lst xs)):zR K H (.ref a) (.type "list")
 |frz {a:Addr}{o:Obj}{xs:List V}(e:H a=some (.frz o (.lst xs))):zR K H (.ref a) (.type "list")
 |tup {a:Addr}{xs:List V}(e:H a=some (.tup xs)):zR K H (.ref a) (.type "tuple")
 |dK {a:Addr}{kvs:List (Key×V)}(e:H a=some (.dK kvs)):zR K H (.ref a) (.type "dict")
 |dT {a:Addr}{kvs:List (List Key×V)}(e:H a=some (.dT kvs)):zR K H (.ref a) (.type "dict")
 | ins {a C dx:Addr}{fs:List (Str × V)}(e:H a=some (.ins C dx fs)) (cl:Cls K C) (ha:PySem.W.findIn K (.ref C) "__class__" = some (some (.builtin "object.__class__")))
   (hn:PySem.W.specialIn K (.builtin "object.__class__") "__get__" = some (some (.builtin "getset_descriptor.__get__"))) (htk:PySem.W.takesIn K (.builtin "object.__class__")=some true)
   (hm:PySem.W.mroIn K C (.type "object")=some true):zR K H (.ref a) (.ref C)
end
structure Room(k:Nat)(A:Around):Prop where
 hd:A.handled=none
 dp:A.depth+3*k+5<recursionLimit
 un:A.units+16*k+200<cLine
def Room.mono(r:Room k A)(h:j<=k):Room j A:=⟨r.hd,by have:=r.dp;omega,by have:=r.un;omega⟩
theorem Room.deeper(r:Room (k+1) A)(env:Env):Room k (A.deeper env) :=
 ⟨r.hd,by have:=r.dp;show A.depth+1+3*k+5<_;omega,by have:=r.un;show A.units+3+16*k+200<_;omega⟩
def Z1h{A:Ai}{C:Af}{us:Ab Ad}{kw:Ab (Str×Ad)}:(A.under (.builtin "type.__call__" ⟨.ref C::us,kw⟩)).depth=A.depth+1:=by
 first|rfl|simp[Around.under,Code.weight,Code.isCreation,Code.isGuard,Code.isCaller,Code.frames,Code.isFrame,guardIds]
def Z1g{A:Ai}{C:Af}{us:Ab Ad}{kw:Ab (Str×Ad)}:(A.under (.builtin "type.__call__" ⟨.ref C::us,kw⟩)).units=A.units+1:=by
 first|rfl|simp[Around.under,Code.cUnits,Code.frames,Code.isFrame]
def Room.make(r:Room (k+1) A)(C:Af)(us:Ab Ad)(kw:Ab (Str×Ad)):Room k (A.under (.builtin "type.__call__" ⟨.ref C::us,kw⟩)) :=
 ⟨r.hd,by have:=r.dp;rw[Z1h];omega,by have:=r.un;rw[Z1g];omega⟩
theorem Room.depth(r:Room k A):A.depth<recursionLimit:=by have:=r.dp;omega
theorem Room.units(r:Room k A):A.units+64<cLine:=by have:=r.un;omega
def Z7l:TA:=λ_ H Q=>Q [] H
def Z4R(ta:TE)(tr:TA):TA:=λσ H Q=>ta σ H λx H1=>tr σ H1 λxs H2=>Q (x::xs) H2
section
variable {X:Cx}{e:Ag}{es:Ab Ag}{te:TE}{t:TA}{pos:Pos}
def pa_nil:PA X [] Z7l:=λ_ _ _ _ H Q I h=>Calls.spliced_nil ⟨[],H,I,.nil,h⟩
def pa_cons(a:PE X e te)(b:PA X es t)(hs:sEa e es X.env:=by rfl):PA X (e::es) (Z4R te t):=by
 intro pos pins s σ H Q I h;rw[hs];show wpAny _ _ (spliced ((false,eval e X.env)::backTo pos (starEach es X.env))) _ _ s;refine Calls.spliced_cons (thn (a pins s σ H _ I h) λu s1 ⟨x,H1,I1,r1,q1⟩=>?_);exact thn (b pos pins s1 σ H1 _ I1 q1) λus s2 ⟨xs,H2,I2,r2,q2⟩=>⟨x::xs,H2,I2,.cons r1 r2,q2⟩
def ZbL(t:TA):TE:=λσ H Q=>t σ H λxs H1=>xs.length<=sizeLine/\∀p,H1 p=none->Q (.ref p) (upd H1 p (.tup xs))
def ZbO(t:TA):TE:=λσ H Q=>t σ H λxs H1=>xs.length<=sizeLine/\∀p,H1 p=none->Q (.ref p) (upd H1 p (.lst xs))
def pe_tup(h:PA X es t):PE X (.Tuple es x1 pos) (ZbL t):=by
 intro pins s σ H Q I hq;refine wpAny_Tuple_spliced (thn (h pos pins s σ H _ I hq) λus s1 ⟨xs,H1,I1,r,z,q⟩=>⟨by rw[<- r.length];exact z,?_⟩);have a:H1 s1.heap.objs.size=none:=I1.hok.fresh (Qan _);refine⟨.ref s1.heap.objs.size,upd H1 s1.heap.objs.size (.tup xs),I1.laid (t':=s1.toks) (λb u e=>Qac _ e) (Qan _) ?_,rfl,q _ a⟩;exact⟨z,us,r,⟨_,Qap _ rfl,rfl,_,rfl⟩⟩
def pe_lst(h:PA X es t):PE X (.List es pos) (ZbO t):=by
 intro pins s σ H Q I hq;refine wpAny_List_spliced (thn (h pos pins s σ H _ I hq) λus s1 ⟨xs,H1,I1,r,z,q⟩=>⟨by rw[<- r.length];exact z,?_⟩);have a:H1 s1.heap.objs.size=none:=I1.hok.fresh (Qan _);refine⟨.ref s1.heap.objs.size,upd H1 s1.heap.objs.size (.lst xs),I1.laid (t':=s1.toks) (λb u e=>Qac _ e) (Qan _) ?_,rfl,q _ a⟩;exact⟨z,us,0,r,Qap _ rfl⟩
end
abbrev Sp:=Ab V->Hp->VK->XK->Prop
abbrev CXT:=Ab Env->Hp->Ac->XK->Ad->Ac->Prop
structure Env0(P:Program)(w:World)(K:Frag)(mg:Str->Option Value)(base:Heap)(A:Around)(outer:List Env)(s:Shared)(H:Hp):Prop where
 frames:A.frames=some outer
 mod:Mod K mg base
 bs:∀b o,base.get? b=some o->s.heap.get? b=some o/\H b=none
 bsz:base.objs.size<=s.heap.objs.size
 funs:s.heap.FunFrames base outer
 frf:∀b∈frs outer,H b=none
 hok:HOk P w H s.heap
 bare:AllBare s.gens
def CE(outer:Ab Env)(P:Aj)(w:Ak)(H:Hp)(s:Ac)(Q:VK)(u:Ad)(s':Ac):Prop :=
 ∃v H',s'.os=s.os/\AllBare s'.gens/\Un (frs outer) [] H H' s.heap s'.heap/\HOk P w H' s'.heap/\RelV v u/\Q v H'
def CR(CX:CXT)(outer:Ab Env)(P:Aj)(w:Ak)(H:Hp)(s:Ac)(Q:VK)(E:XK)(r:Result)(s':Ac):Prop :=
 match r with
 | .ok (.ret u)=>CE outer P w H s Q u s'
 | .ok _=>False
 | .error e=>CX outer H s E e s'
structure iF(P:Program)(w:World)(K:Frag)(mg:Str->Option Value)(base:Heap)(CX:CXT)(k:Nat)(f:Addr)(fd:FuncData)(ps:List Str)(sp:Sp):Prop where
 len:∀vs H Q E,sp vs H Q E->vs.length=ps.length
 run:∀(A:Ai) (outer:Ab Env) (s:Ac) (H:Hp) (args:Args) (us:Ab Ad) (vs:Ab V) (Q:VK) (E:XK),Room k A->Env0 P w K mg base A outer s H->BindsTo s fd args (ps.zip us)->Vals vs us->sp vs H Q E ->
  codeAny (model P w) A (.call (.ref f) args) (CR CX outer P w H s Q E) s
def Env0.make{P:Aj}{w:Ak}{K:Frag}{mg:Str->Aa Ad}{base:Ah}{A:Ai}{outer:Ab Env}{s:Ac}{H:Hp}(e:Env0 P w K mg base A outer s H)(C:Af)(us:Ab Ad)(kw:Ab (Str×Ad)) :
  Env0 P w K mg base (A.under (.builtin "type.__call__" ⟨.ref C::us,kw⟩)) outer s H:=⟨by first|exact e.frames|(simpa[Around.under,Code.envs,Code.isFrame,pushEnvs]using e.frames),e.mod,e.bs,e.bsz,e.funs,e.frf,e.hok,e.bare⟩
section
variable {X:Cx}{pins:Ab (Af×Obj)}{σ:St}{H:Hp}{s s':Ac}
def Inv.env0(I:Inv X pins σ H s):Env0 X.prog X.w X.K X.mg X.base X.A X.stack s H :=
 ⟨I.ok.frames,I.ok.mod,I.bs,QaC I.ok.bsz I.sz,I.stack,I.stkFree,I.hok,I.bare⟩
def Inv.after(I:Inv X pins σ H s)(h:CE X.stack X.prog X.w H s Q u s'):EP X pins σ Q u s':=by
 obtain⟨v,H',os,a,un,e,r,q⟩:=h;obtain⟨i,g,d,t,f⟩:=s';obtain rfl:f=s.os:=os;exact⟨v,H',I.call (h':=i) (g':=g) (d':=d) (t':=t) (ch:=[]) un e a (λb z=>absurd z (by simp)),r,q⟩
end
def ZaH(sp:Sp)(dvs:Ab V)(E:XK)(t:TA):TE:=λσ H Q=>t σ H λvs H1=>sp (vs++dvs) H1 Q E
def Z8R(C:Af)(sp:Sp)(dvs:Ab V)(E:XK)(t:TA):TE:=λσ H Q=>t σ H λvs H1=>∀x dx,H1 x=none->H1 dx=none->dx≠x ->
 sp (.ref x::(vs++dvs)) (upd (upd H1 dx (.own x)) x (.ins C dx [])) (λv H2=>v=.non/\Q (.ref x) H2) E
def Binds(K:Frag)(fd:FuncData)(ps:Ab Str)(ds:Ab Ad):Prop :=
 ∀(s:Ac) (us:Ab Ad),K.In s.heap->(us++ds).length=ps.length->BindsTo s fd ⟨us,[]⟩ (ps.zip (us++ds))
def Binds.all{K:Frag}{fd:FuncData}{ps:Ab Str}(h:∀us:Ab Ad,us.length=ps.length->bindArgs fd ⟨us,[]⟩=pure (ps.zip us)):Binds K fd ps []:=λs us _ hl=>by
 rw[QaP]at hl ⊢;exact .of_eq (h us hl)
def uQ(CX:CXT)(X:Cx)(E:XK):Prop:=∀(pins:Ab (Af×Obj)) (σ:St) (H:Hp) (s:Ac) (e:Ad) (s':Ac),Inv X pins σ H s->CX X.stack H s E e s'->X.xe e s'
section
variable {X:Cx}{CX:CXT}{k:Nat}{f C:Af}{fd:FuncData}{ps:Ab Str}{sp:Sp}{dvs:Ab V}{ds:Ab Ad}{E:XK}{x:Str}{p pos:Pos}{e:Ag}{es:Ab Ag}{t:TA}
def Z9B(F:iF X.prog X.w X.K X.mg X.base CX k f fd ps sp)(j:Room k X.A)(l:Binds X.K fd ps ds)(hd:Vals dvs ds)(i:uQ CX X E)
  (I:Inv X pins σ H s) (r:Vals vs us) (h:sp (vs++dvs) H Q E):wpAny (model X.prog X.w) X.A (call (.ref f) us) (EP X pins σ Q) X.xe s:=by
 have a:Vals (vs++dvs) (us++ds):=r.append hd;have b:(us++ds).length=ps.length:=by rw[<- a.length];exact F.len _ _ _ _ h
 refine wpAny_call (codeAny_mono (F.run X.A X.stack s H ⟨us,[]⟩ (us++ds) (vs++dvs) Q E j I.env0 (l s us I.kIn b) a h) λr s' hq=>?_);cases r with
 |error e=>exact i pins σ H s e s' I hq
 |ok fl =>
  cases fl with
  |ret u=>exact I.after hq
  |next=>exact False.elim hq
  |brk=>exact False.elim hq
  |cont=>exact False.elim hq
def pe_call(F:iF X.prog X.w X.K X.mg X.base CX k f fd ps sp)(o:Room k X.A)(l:Gl X x)(j:X.mg x=some (.ref f))(u:keepIn X.K (.ref f)=true)(i:Binds X.K fd ps ds)(hd:Vals dvs ds)(n:uQ CX X E)
  (b:PA X (e::es) t) (a:nDb x:=by decide) (he:sEa e es X.env:=by rfl) (hpl:bTa pos es X.env:=by rfl) :
  PE X (.Call (.Name x p) (e::es) [] pos) (ZaH sp dvs E t):=by
 intro pins s σ H Q I h;refine Ri (wO I l j ?_ a);refine PySem.W.callWith_K (h₀:=X.base) I.ok.mod.kin u (thn (b pos pins s σ H _ I h) λus s1 ⟨vs,H1,I1,r,q⟩=>⟨I1.kIn,?_⟩) he hpl;exact Z9B F o i hd n I1 r q
structure Mk(K:Frag)(C f:Addr):Prop where
 makes:PySem.W.makesIn K C=true
 init:PySem.W.findIn K (.ref C) "__init__" = some (some (.ref f))
 fn:PySem.W.isFn K (.ref f)=true
 kp:keepIn K (.ref C)=true
def V6(M:Mk X.K C f)(F:iF X.prog X.w X.K X.mg X.base CX k f fd ps sp)(o:Room (k+1) X.A)(q:Binds X.K fd ps ds)(hd:Vals dvs ds)
  (n:uQ CX X E) (I:Inv X pins σ H s) (r:Vals vs us)
  (h:∀x dx,H x=none->H dx=none->dx≠x->sp (.ref x::(vs++dvs)) (upd (upd H dx (.own x)) x (.ins C dx [])) (λv H2=>v=.non/\Q (.ref x) H2) E) :
  wpAny (model X.prog X.w) X.A (call (.ref C) us) (EP X pins σ Q) X.xe s:=by
 have hq:=h (s.heap.objs.size+1) s.heap.objs.size (I.hok.fresh (Nat.le_succ _)) (I.hok.fresh (Qan _)) (QaM (Nat.lt_succ_self _));have a:=Inv.made (C:=C) I;have b:Vals (V.ref (s.heap.objs.size+1)::(vs++dvs)) (Value.ref (s.heap.objs.size+1)::(us++ds)):=.cons rfl (r.append hd);have j:(Value.ref (s.heap.objs.size+1)::us++ds).length=ps.length:=by
  have e:=b.length;rw[F.len _ _ _ _ hq]at e;exact e.symm
 refine wpAny_call (Z64 (f:=f) I.kIn M.makes M.init (beq_iff_eq.mp M.fn) (codeAny_mono (F.run _ X.stack _ _ ⟨Value.ref (s.heap.objs.size+1)::us,[]⟩ (Value.ref (s.heap.objs.size+1)::(us++ds)) _ _ E (o.make C us [])
  (a.env0.make C us []) (q _ (Value.ref (s.heap.objs.size+1)::us) a.kIn j) b hq) λr s' hq'=>?_))
 cases r with
 |error e=>exact n pins σ _ _ e s' a hq'
 |ok fl =>
  cases fl with
  |ret u =>
   obtain⟨v,H',i,t,l,p⟩:=a.after hq';subst l;exact⟨t,⟨V.ref (s.heap.objs.size+1),H',i,rfl,p⟩⟩
  |next=>exact False.elim hq'
  |brk=>exact False.elim hq'
  |cont=>exact False.elim hq'
def pe_make(M:Mk X.K C f)(F:iF X.prog X.w X.K X.mg X.base CX k f fd ps sp)(o:Room (k+1) X.A)(l:Gl X x)(j:X.mg x=some (.ref C))(i:Binds X.K fd ps ds)(hd:Vals dvs ds)(n:uQ CX X E)
  (b:PA X (e::es) t) (a:nDb x:=by decide) (he:sEa e es X.env:=by rfl) (hpl:bTa pos es X.env:=by rfl) :
  PE X (.Call (.Name x p) (e::es) [] pos) (Z8R C sp dvs E t):=by
 intro pins s σ H Q I h;refine Ri (wO I l j ?_ a);refine PySem.W.callWith_K (h₀:=X.base) I.ok.mod.kin M.kp (thn (b pos pins s σ H _ I h) λus s1 ⟨vs,H1,I1,r,q⟩=>⟨I1.kIn,?_⟩) he hpl;exact V6 M F o i hd n I1 r q
def pe_make0(M:Mk X.K C f)(F:iF X.prog X.w X.K X.mg X.base CX k f fd ps sp)(j:Room (k+1) X.A)(e:Gl X x)(b:X.mg x=some (.ref C))(l:Binds X.K fd ps ds)(hd:Vals dvs ds)(i:uQ CX X E)
  (a:nDb x:=by decide):PE X (.Call (.Name x p) [] [] pos) (Z8R C sp dvs E Z7l):=by
 intro pins s σ H Q I h;refine Ri (wO I e b ?_ a);exact PySem.W.callWith_K0 I.kIn M.kp (V6 (us:=[]) M F j l hd i I .nil h)
end
section
variable {fd:FuncData}{ps ks:Ab Str}
structure Zci(K:Frag)(fd:FuncData)(ps ks:List Str)(g:List Value->List Value->List Value)(gV:List V->List V->List V):Prop where
 to:∀(s:Ac) (us ws:Ab Ad),K.In s.heap->(g us ws).length=ps.length->BindsTo s fd ⟨us,ks.zip ws⟩ (ps.zip (g us ws))
 rel:∀{vs:Ab V}{us:Ab Ad}{zs:Ab V}{ws:Ab Ad},Vals vs us->Vals zs ws->Vals (gV vs zs) (g us ws)
end
structure gN(N P:List Str)(sc:Scope):Prop where
 kind:sc.kind=.function
 co:sc.isCoroutine=false
 gen:sc.isGenerator=false
 nd:N.Nodup
 pre:N.take P.length=P
 par:∀x∈P,sc.names.lookup x=some .local\/sc.names.lookup x=some .cell
 nofree:∀y∈sc.names,y.2 ≠ .free
def Ro{N P:List Str}{h:Scope}(a:h.kind=.function:=by rfl)(b:h.isCoroutine=false:=by rfl)(c:h.isGenerator=false:=by rfl)(d:N.Nodup:=by decide +kernel)(e:N.take P.length=P:=by rfl)(f:∀x∈P,h.names.lookup x=some .local\/h.names.lookup x=some .cell:=by decide +kernel)(g:∀y∈h.names,y.2 ≠ .free:=by decide +kernel):gN N P h:=⟨a,b,c,d,e,f,g⟩
theorem G6{b:Str->Aa NameKind}{x:Str}:∀{a:Ab (Str×Ad)}{m:Str->Aa Ad},(∀v,(x,v)∉a)->bindL b a m x=m x
 |[],_,_=>rfl
 |(n,v)::r,m,h=>by
  unfold bindL;rw[G6 λw hw=>h w (Qab _ hw)];split
  .have:x≠n:=by rintro rfl;exact h v Qah
   simp[this]
  .rfl
theorem G8{b:Str->Aa NameKind}{x:Str}:∀{a:Ab (Str×Ad)}{m:Str->Aa Ad},(∀v,(x,v)∉a)->bindC b a m x=m x
 |[],_,_=>rfl
 |(n,v)::r,m,h=>by
  unfold bindC;rw[G8 λw hw=>h w (Qab _ hw)];split
  .rfl
  .have:x≠n:=by rintro rfl;exact h v Qah
   simp[this]
theorem G7{a:Str->Aa NameKind}{x:Str}{v:Ad}:∀{P:Ab Str}{vs:Ab Ad}{i:Nat}{m:Str->Aa Ad},P.Nodup->P[i]?=some x->vs[i]?=some v->a x=some .local ->
  bindL a (P.zip vs) m x=some v
 |[],_,_,_,_,h,_,_=>by simp at h
 |_::_,[],_,_,_,_,h,_=>by simp at h
 |p::P,w::vs,0,m,nd,h1,h2,hk=>by
  simp at h1 h2;subst h1;subst h2;show bindL a ((p,w)::P.zip vs) m p=_;unfold bindL;rw[G6 λv hv=>(Qax.mp nd).1 (List.of_mem_zip hv).1,if_pos hk];simp
 |p::P,w::vs,i+1,m,nd,h1,h2,hk=>by
  show bindL a ((p,w)::P.zip vs) m x=_;unfold bindL;exact G7 (i:=i) (Qax.mp nd).2 (by simpa using h1) (by simpa using h2) hk
theorem G9{a:Str->Aa NameKind}{x:Str}{v:Ad}:∀{P:Ab Str}{vs:Ab Ad}{i:Nat}{m:Str->Aa Ad},P.Nodup->P[i]?=some x->vs[i]?=some v->a x≠some .local ->
  bindC a (P.zip vs) m x=some v
 |[],_,_,_,_,h,_,_=>by simp at h
 |_::_,[],_,_,_,_,h,_=>by simp at h
 |p::P,w::vs,0,m,nd,h1,h2,hk=>by
  simp at h1 h2;subst h1;subst h2;show bindC a ((p,w)::P.zip vs) m p=_;unfold bindC;rw[G8 λv hv=>(Qax.mp nd).1 (List.of_mem_zip hv).1,if_neg hk];simp
 |p::P,w::vs,i+1,m,nd,h1,h2,hk=>by
  show bindC a ((p,w)::P.zip vs) m x=_;unfold bindC;exact G9 (i:=i) (Qax.mp nd).2 (by simpa using h1) (by simpa using h2) hk
def start(N:Ab Str)(vs:Ab V):St:=vs.map some++List.replicate (N.length-vs.length) none
def uK(CX:CXT)(P:Aj)(w:Ak)(K:Frag)(mg:Str->Aa Ad)(base:Ah)(N:Ab Str)(qual:Str)(scope:Scope)(f:Af)(cd:Ad)(A:Ai)(outer:Ab Env)(s:Ac)(H:Hp)(E:XK):Cx where
 prog:=P
 w:=w
 K:=K
 mg:=mg
 base:=base
 A:=A.deeper (envOfC qual scope s.heap.objs.size f cd)
 N:=N
 s₀:=s
 H₀:=H
 env:=envOfC qual scope s.heap.objs.size f cd
 outer:=outer
 stack:=envOfC qual scope s.heap.objs.size f cd::outer
 ex:=[]
 calm:=true
 fn:=λ_=>true
 pn:=[]
 xe:=λe s'=>wpAny (model P w) (A.deeper (envOfC qual scope s.heap.objs.size f cd)) («leaving» (envOfC qual scope s.heap.objs.size f cd) e) (λ_ s''=>CX outer H s E e s'') (λe' s''=>CX outer H s E e' s'') s'
def Z0l{a:Scope}{n:Nat}{x:Str}(h:a.names.lookup x=some .cell):∃c,(cellsFrom n a.names []).lookup x=some c:=by
 have q:=PySem.W.cellsFrom_some a.names n [] (.inl h);exact Option.isSome_iff_exists.mp q
def Z40{CX:CXT}{P:Aj}{w:Ak}{K:Frag}{mg:Str->Aa Ad}{base:Ah}{N ps:Ab Str}{l:Str}{scope:Scope}{f:Af}{B:Ad}{A:Ai}{outer:Ab Env}{s s1:Ac}{H:Hp}{E:XK}{us:Ab Ad}{vs:Ab V}
  (S:gN N ps scope) (hd:A.handled=none) (j:Env0 P w K mg base A outer s H) (L:vs.length=ps.length) (r:Vals vs us)
  (x:InCallC s s.heap.objs.size (bindL (envOfC l scope s.heap.objs.size f B).kindOf (ps.zip us) λ_=>none) (cellsFrom (s.heap.objs.size+1) scope.names []) (bindC (envOfC l scope s.heap.objs.size f B).kindOf (ps.zip us) λ_=>none) s1) :
  Inv (uK CX P w K mg base N l scope f B A outer s H E) [] (start N vs) H s1:=by
 have hpl:ps.length<=N.length:=by have:=congrArg List.length S.pre;rw[Qat]at this;omega
 obtain⟨h1,tk,rfl,G⟩:=x.done;have t:∀b:Af,b∉(uK CX P w K mg base N l scope f B A outer s H E).ex:=λb z=>absurd (show b∈([]:Ab Af) from z) (by simp)
 refine⟨⟨j.mod,S.kind,rfl,rfl,Qan _,λy z c h1 h2=>?_,λy o=>?_,λy c _ h=>?_,λ_=>hd,Around.frames_deeper j.frames,.inr ⟨rfl,rfl⟩,λb z=>absurd z (t b),j.bs,j.bsz,λb _ _=>t b,λb z=>absurd z (t b),j.funs,j.frf⟩,
  rfl,j.bare,Un.kept G,⟨_,x.toInCall.ns,λi y v h1 h2 h3=>?_⟩,λy c h=>⟨_,x.cell y c h⟩,j.hok.fresh (Qan _),λy c h=>?_,λp hp=>absurd (show p∈([]:Ab (Af×Obj)) from hp) (by simp),j.hok.kept G,?_⟩
 .exact name_of_addr x.apart (PySem.mem_of_lookup h1) (PySem.mem_of_lookup h2)
 .have o:scope.names.lookup y=some .cell\/scope.names.lookup y=some .free:=o;rcases o with o|o
  .exact Z0l o
  .exact absurd rfl (S.nofree _ (PySem.mem_of_lookup o))
 .exact Qbe (x.above y c (PySem.mem_of_lookup h))
 .have hi:i<vs.length:=by
   unfold start at h2;by_cases hi:i<vs.length
   .exact hi
   .rw[QaW (by simpa using hi)]at h2;rw[Qbi]at h2;split at h2<;>cases h2
  have I:vs[i]?=some v:=by
   unfold start at h2;rw[QaH (by simpa using hi),QaA]at h2;cases e:vs[i]? with
   |none=>rw[e]at h2;cases h2
   |some a=>rw[e]at h2;cases h2;rfl
  obtain⟨u,F,J⟩:=r.get I;have hp:ps[i]?=some y:=by
   rw[<- S.pre,List.getElem?_take_of_lt (by omega)];exact h1
  have C:ps.Nodup:=by rw[<- S.pre];exact S.nd.sublist (List.take_sublist _ _)
  refine⟨u,J,?_⟩;rcases S.par y (QaK hp)with k|k
  .exact .inl ⟨k,G7 C hp F k⟩
  .obtain⟨c,e⟩:=Z0l (n:=s.heap.objs.size+1) k;refine .inr ⟨.inl k,c,e,?_⟩;have q:=x.cell y c e;rw[G9 C hp F (by show scope.names.lookup y≠_;rw[k];decide)]at q;exact q
 .exact j.hok.fresh (Qbe (x.above y c (PySem.mem_of_lookup h)))
 .unfold start;show _=N.length;rw[Qam,Qaa,List.length_replicate];omega
def Z6y{CX:CXT}{P:Aj}{w:Ak}{K:Frag}{mg:Str->Aa Ad}{base:Ah}{k:Nat}{f:Af}{name a:Str}{i:Arguments}{body:Ab Stmt}{scope:Scope}{O kV B L h ct Y:Ad}{an Z:Aa Af}
  {F:Ae (Aa Ad)}{N ps:Ab Str}{sp:Sp}(U:K.lookup f=some ⟨Y,Z,.func (fnOf name a i body scope O kV B L an h ct),F⟩) (G:codeIn K h a=true) (S:gN N ps scope)
  (len:∀vs H Q E,sp vs H Q E->vs.length=ps.length)
  (j:∀ (A:Ai) (outer:Ab Env) (s:Ac) (H:Hp) (vs:Ab V) (Q:VK) (E:XK),Room k (A.deeper (envOfC a scope s.heap.objs.size f h))->sp vs H Q E ->
   ∃t,PSs (uK CX P w K mg base N a scope f h A outer s H E) body t/\t { nx:=λ_ H'=>Q .non H',rt:=Q } (start N vs) H) :
  iF P w K mg base CX (k+1) f (fnOf name a i body scope O kV B L an h ct) ps sp:=by
 refine⟨len,λA outer s H args us vs Q E hr e0 hb r hsp=>?_⟩;have X:=len _ _ _ _ hsp;have M:K.In s.heap:=e0.mod.kin.keeps λb o e=>(e0.bs b o e).1;have R:s.heap.NoLimit:=e0.mod.nolimit.keeps λb o e=>(e0.bs b o e).1;have l:∀y∈ps.zip us,scope.names.lookup y.1=some .local\/(scope.names.lookup y.1=some .cell/\((cellsFrom (s.heap.objs.size+1) scope.names []).lookup y.1).isSome=true):=λ⟨n,v⟩ hy=>by
  rcases S.par n (List.of_mem_zip hy).1 with q|q
  .exact .inl q
  .exact .inr ⟨q,PySem.W.cellsFrom_some _ _ _ (.inl q)⟩
 refine codeAny_call_function hr.depth (M _ _ U) rfl S.co S.gen rfl (PySem.W.codeRec_of M G) (hb _ _ _ _ ?_);refine wpAny_newFunctionEnv_cells S.kind l λenv he s1 x=>?_;subst he;refine⟨R.keeps x.toInCall.keep,codeAny_func ?_⟩;obtain⟨t,T,hq⟩:=j A outer s H vs Q E (hr.deeper _) hsp;have I:Inv (uK CX P w K mg base N a scope f h A outer s H E) [] (start N vs) H s1:=Z40 S hr.hd e0 X r x;refine Rc (T [] s1 (start N vs) H _ I hq) (λfl s' hs=>?_) λe s' hs=>hs;have p:∀{σ':St}{H':Hp}{v:V}{u:Ad},Inv (uK CX P w K mg base N a scope f h A outer s H E) [] σ' H' s'->RelV v u->Q v H'->CE outer P w H s Q u s' :=
  λ{σ' H' v u} J C q=>⟨v,H',J.os,J.bare,J.base,J.hok,C,q⟩
 cases fl with
 |ret u =>
  obtain⟨v,σ',H',J,C,q⟩:=hs;exact p J C q
 |next =>
  obtain⟨σ',H',J,q⟩:=hs;exact p (v:=V.non) (u:=Value.none) J rfl q
 |brk =>
  obtain⟨_,_,_,q⟩:=hs;exact False.elim q
 |cont =>
  obtain⟨_,_,_,q⟩:=hs;exact False.elim q
section
variable {X:Cx}{x:Str}{p pos:Pos}{e:Ag}{es:Ab Ag}{t:TA}{id T:String}{r:Ab V->Hp->VK->Prop}
def tCB(r:Ab V->Hp->VK->Prop)(t:TA):TE:=λσ H Q=>t σ H λvs H1=>r vs H1 Q
def pe_callB(hc:CallR X (.builtin id) r)(f:Gl X x)(b:X.mg x=none)(i:bootBuiltins x=some (.builtin id))(j:PA X (e::es) t)(l:x ≠ "__name__":=by decide)(a:nDb x:=by decide)
  (he:sEa e es X.env:=by rfl) (hpl:bTa pos es X.env:=by rfl):PE X (.Call (.Name x p) (e::es) [] pos) (tCB r t):=by
 intro pins s σ H Q I h;refine Ri (nA I f b i ?_ l a);exact PyProof.Rows.callWith_builtin1 (thn (j pos pins s σ H _ I h) λus s1 ⟨vs,H1,I1,r1,q1⟩=>hc pins s1 σ H1 vs us Q I1 r1 q1) he hpl
def pe_callTy(hc:CallR X (.type T) r)(f:Gl X x)(b:X.mg x=none)(i:bootBuiltins x=some (.type T))(j:PA X (e::es) t)(l:x ≠ "__name__":=by decide)(a:nDb x:=by decide)
  (he:sEa e es X.env:=by rfl) (hpl:bTa pos es X.env:=by rfl):PE X (.Call (.Name x p) (e::es) [] pos) (tCB r t):=by
 intro pins s σ H Q I h;refine Ri (nA I f b i ?_ l a);exact PyProof.Rows.callWith_type1 (thn (j pos pins s σ H _ I h) λus s1 ⟨vs,H1,I1,r1,q1⟩=>hc pins s1 σ H1 vs us Q I1 r1 q1) he hpl
end
end L2
namespace HT
open PySem PyProof.Rows
section
variable {prog:Aj}{w:Ak}{A:Ai}{E:Ad->Ac->Prop}{s:Ac}
def sIx(n d:Nat):Aa Int->Nat
 |none=>d
 |some v=>if v<0 then(v+(n:Int)).toNat else min v.toNat n
def sIx_none(n d:Nat):sIx n d none=d:=rfl
def sIx_nat(n d k:Nat):sIx n d (some (k:Int))=min k n:=by
 show(if (k:Int)<0 then((k:Int)+(n:Int)).toNat else min (k:Int).toNat n)=min k n;rw[if_neg (by omega),QaO]
def Z9A(n d:Nat)(hd:d<=n)(o:Aa Int):sIx n d o<=n:=by
 cases o with
 |none=>exact hd
 |some v =>
  show(if v<0 then(v+(n:Int)).toNat else min v.toNat n)<=n;by_cases a:v<0
  .rw[if_pos a];omega
  .rw[if_neg a];exact Nat.min_le_right _ _
def Z2Q(v:Int)(n d:Nat):(if v<0 then max (v+(n:Int)) 0 else min v (n:Int))=((sIx n d (some v):Nat):Int):=by
 show(if v<0 then max (v+(n:Int)) 0 else min v (n:Int))=(((if v<0 then(v+(n:Int)).toNat else min v.toNat n):Nat):Int);by_cases a:v<0
 .simp only[if_pos a];omega
 .simp only[if_neg a];omega
def Z1O(lo hi:Aa Int)(n:Nat):Builtin.Slice.sliceAdjust lo hi 1 (n:Int)=(((sIx n 0 lo:Nat):Int),((sIx n n hi:Nat):Int)):=by
 have h1:¬((1:Int)<0):=by omega
 unfold Builtin.Slice.sliceAdjust;simp only[h1,Rn];refine Prod.ext ?_ ?_
 .cases lo with
  |none=>rfl
  |some v=>exact Z2Q v n 0
 .cases hi with
  |none=>rfl
  |some v=>exact Z2Q v n n
def Z16(i j:Nat):Builtin.Slice.slicePlaces (i:Int) (j:Int) 1=j-i:=by
 unfold Builtin.Slice.slicePlaces;have h1:(1:Int) > 0:=by omega
 simp only[h1,Rm,Int.ediv_one];split<;>omega
def xH(p:IsPart v o)(h:Q o s):wpAny (model prog w) A (Builtin.Slice.slicePartIndex v) Q E s:=by
 cases p with
 |none=>exact slicePart_none h
 |int i t=>exact slicePart_int h
theorem lV{sl:Af}{vl vu:Ad}{lo hi:Aa Int}{n:Nat}{Q:Int×Int×Nat->Ac->Prop}(hs:s.heap.IsSliceOf sl vl vu .none)(pl:IsPart vl lo)(pu:IsPart vu hi)
  (h:Q (((sIx n 0 lo:Nat):Int),1,sIx n n hi-sIx n 0 lo) s):wpAny (model prog w) A (Builtin.Slice.sliceApplied (.ref sl) (pure (n:Int))) Q E s:=by
 obtain⟨os,hos,hcs,hds⟩:=id hs;unfold Builtin.Slice.sliceApplied Builtin.Slice.sliceFields;refine Ra (Ra (wpAny_field hos hds (x:=vl) rfl (Ra (wpAny_field hos hds (x:=vu) rfl (Ra (wpAny_field hos hds (x:=.none) rfl (Rb ?_)))))));refine Ra (slicePart_none ?_);show wpAny _ _ (if ((1:Int)==0)=true then _ else _) _ _ s;rw[if_neg (by decide)];refine Ra (xH pl (Ra (xH pu (Ra (Rb ?_)))));show wpAny _ _ (match Builtin.Slice.sliceAdjust lo hi 1 (n:Int) with|(lo,hi)=>pure (lo,(1:Int),Builtin.Slice.slicePlaces lo hi 1)) _ _ s
 rw[Z1O lo hi n];show wpAny _ _ (pure (((sIx n 0 lo:Nat):Int),(1:Int),Builtin.Slice.slicePlaces ((sIx n 0 lo:Nat):Int) ((sIx n n hi:Nat):Int) 1)) _ _ s;rw[Z16];exact Rb h
def Z5J(xs:Ae Ad)(i k:Nat):((List.range k).filterMap λ(m:Nat)=>xs[((i:Int)+(m:Int)*1).toNat]?).toArray=((xs.toList.drop i).take k).toArray:=by
 have e:(λ(m:Nat)=>xs[((i:Int)+(m:Int)*1).toNat]?)=λm=>xs[i+m]?:=by
  funext m;have:((i:Int)+(m:Int)*1).toNat=i+m:=by omega
  rw[this]
 rw[e];have:=pick_run xs i k;rw[List.filterMap_map]at this;have a:((λx=>xs[x]?) ∘ λx=>i+x)=λm=>xs[i+m]?:=rfl;rw[a]at this;rw[this]
def getItem_tuple_cut{t f:Af}{a:Ae Ad}{o j:Ad}{lo hi:Aa Int}{Q:Ad->Ac->Prop}(e:IsTup s.heap t a)(hs:s.heap.IsSliceOf f o j .none)(pl:IsPart o lo)(r:IsPart j hi)
  (hw:¬(sIx a.size 0 lo=0/\sIx a.size a.size hi=a.size))
  (h:Q (.ref s.heap.objs.size) { s with heap:=s.heap.push { cls:=.type "tuple",data:=.seq ((a.toList.drop (sIx a.size 0 lo)).take (sIx a.size a.size hi-sIx a.size 0 lo)).toArray } })
  (hsz:a.size<=sizeLine):wpAny (model prog w) A (getItem (.ref t) (.ref f)) Q E s:=by
 have b:sizeOk (.seq ((a.toList.drop (sIx a.size 0 lo)).take (sIx a.size a.size hi-sIx a.size 0 lo)).toArray):=by
  show((a.toList.drop (sIx a.size 0 lo)).take (sIx a.size a.size hi-sIx a.size 0 lo)).toArray.size<=sizeLine;rw[Qao,Qat,QbA,Qbk];omega
 have x:sIx a.size a.size hi<=a.size:=Z9A _ _ (Qan _) hi;obtain⟨os,n,l,u⟩:=id hs;have i:s.TypeIs (.ref f) "slice":=⟨os,n,l⟩;unfold getItem
 try with_reducible refine Rf ?_
 first|refine Ra (Rb ?_)|skip
 refine Ra (wpAny_sequenceKey e.typeIs (by decide) ?_);refine Ra (wpAny_callSpecial?_slot (name:=Str.ofString "__getitem__") e.typeIs PyProof.Rows.slot_tuple_getitem
  (Rg PyProof.Rows.slot_tuple_getitem e.typeIs entry_tuple_getitem ?_ (args_tuple_getitem _ _)))
 show wpAny _ _ (Builtin.Tuple.tupleItemsOf (.ref t) >>= _) _ _ s;refine Ra (tupleItemsOf_ e ?_);refine Ra (wpAny_typeOf i ?_);rw[if_pos (by decide)];refine Ra (lV hs pl r ?_);have p:¬((((sIx a.size 0 lo:Nat):Int)==0&&(1:Int)==1&&(sIx a.size a.size hi-sIx a.size 0 lo)==a.size)=true):=by
  intro q;rw[QaE,QaE]at q;have y:((sIx a.size 0 lo:Nat):Int)=0:=eq_of_beq q.1.1;have v:sIx a.size a.size hi-sIx a.size 0 lo=a.size:=eq_of_beq q.2;exact hw ⟨by omega,by omega⟩
 show wpAny _ _ (if (((sIx a.size 0 lo:Nat):Int)==0&&(1:Int)==1&&(sIx a.size a.size hi-sIx a.size 0 lo)==a.size)=true then _ else _) _ _ s;rw[if_neg p,Z5J]
 first
  |exact Ra (m:=Builtin.Tuple.tupleExact _) (Re (Rb ⟨_,rfl,Rb h⟩) b)
  |exact Ra (m:=Builtin.Tuple.tupleExact _) (Re (Ra (Rb (Rb ⟨_,rfl,Rb h⟩))) b)
  |exact Ra (Ra (m:=Builtin.Tuple.tupleExact _) (Re (Rb (Rb ⟨_,rfl,Rb h⟩)) b))
  |exact Ra (Ra (m:=Builtin.Tuple.tupleExact _) (Re (Rb ⟨_,rfl,Rb h⟩) b))
end
end HT
namespace L2
open PySem PySem.Spec PyProof.Rows
abbrev TO:=St->Hp->(Aa Int->Hp->Prop)->Prop
def PO(X:Cx)(e:Aa Ag)(t:TO):Prop :=
 ∀(pins:Ab (Af×Obj)) (s:Ac) (σ:St) (H:Hp) (Q:Aa Int->Hp->Prop),Inv X pins σ H s->t σ H Q ->
  wpAny (model X.prog X.w) X.A (evalPart e X.env) (λu s'=>∃o H',Inv X pins σ H' s'/\IsPart u o/\Q o H') X.xe s
def Z7k:TO:=λ_ H Q=>Q none H
def ZaE(t:TE):TO:=λσ H Q=>t σ H λx H1=>∃i,x=.int i/\Q (some i) H1
section
variable {X:Cx}{e:Ag}{te:TE}{lo hi:Aa Ag}{tl th:TO}{pos p2:Pos}
def Z83:PO X none Z7k:=by
 intro pins s σ H Q I h;rw[evalPart_none];exact Rb ⟨none,H,I,.none,h⟩
def Z82(h:PE X e te):PO X (some e) (ZaE te):=by
 intro pins s σ H Q I hw;rw[evalPart_some];refine thn (h pins s σ H _ I hw) λu s1 ⟨x,H1,I1,r1,q1⟩=>?_;obtain⟨i,rfl,q⟩:=q1;obtain⟨t,rfl⟩:=r1;exact⟨some i,H1,I1,.int i t,q⟩
def SlR(X:Cx)(r:V->Aa Int->Aa Int->Hp->VK->Prop):Prop :=
 ∀(pins:Ab (Af×Obj)) (s:Ac) (σ:St) (H:Hp) (x:V) (v vl vu:Ad) (lo hi:Aa Int) (sl:Af) (Q:VK),Inv X pins σ H s->RelV x v->s.heap.IsSliceOf sl vl vu .none->IsPart vl lo->IsPart vu hi->r x lo hi H Q ->
  ∃T id,typeLookup (.type T) "__getitem__" = pure (some (.builtin id))/\s.TypeIs v T/\wpAny (model X.prog X.w) X.A (getItem v (.ref sl)) (EP X pins σ Q) X.xe s
def SlR.or(h:SlR X r)(h':SlR X r'):SlR X (λx lo hi H Q=>r x lo hi H Q\/r' x lo hi H Q):=by
 intro pins s σ H x v f b lo hi i Q I a hs pl e q;rcases q with q|q
 .exact h pins s σ H x v f b lo hi i Q I a hs pl e q
 .exact h' pins s σ H x v f b lo hi i Q I a hs pl e q
def tSl(r:V->Aa Int->Aa Int->Hp->VK->Prop)(te:TE)(tl th:TO):TE:=λσ H Q=>te σ H λx H1=>tl σ H1 λl H2=>th σ H2 λu H3=>r x l u H3 Q
def pe_slice(p:SlR X r)(he:PE X e te)(f:PO X lo tl)(i:PO X hi th):PE X (.Subscript e (.Slice lo hi none p2) pos) (tSl r te tl th):=by
 intro pins s σ H Q I h;refine Subscript_ (thn (he pins s σ H _ I h) λv s1 ⟨x,H1,I1,r1,q1⟩=>?_);refine wpAny_Slice (thn (f pins s1 σ H1 _ I1 q1) λvl s2 ⟨l,H2,I2,pl,q2⟩=>thn (i pins s2 σ H2 _ I2 q2) λvu s3 ⟨u,H3,I3,pu,q3⟩=>?_);rw[evalPart_none];refine Rb ?_;have a:Inv X pins σ H3 { s3 with heap:=s3.heap.push { cls:=.type "slice",data:=.fields #[vl,vu,.none] } }:=I3.kept (t':=s3.toks) λb ob q=>Qac _ q;obtain⟨T,id,o,n,j⟩:=p pins { s3 with heap:=s3.heap.push { cls:=.type "slice",data:=.fields #[vl,vu,.none] } } σ H3 x v vl vu l u s3.heap.objs.size Q a r1 (Heap.IsSliceOf.new ..) pl pu q3;show wpAny (model X.prog X.w) X.A (subscriptTail e (.Slice lo hi none p2) v (.ref s3.heap.objs.size)) (EP X pins σ Q) X.xe { s3 with heap:=s3.heap.push { cls:=.type "slice",data:=.fields #[vl,vu,.none] } };exact tail_any (ops:=[.ref s3.heap.objs.size,v]) n o j (by with_unfolding_all rfl)
def Z0i(xs:Ab V)(lo hi:Aa Int):Ab V:=(xs.drop (HT.sIx xs.length 0 lo)).take (HT.sIx xs.length xs.length hi-HT.sIx xs.length 0 lo)
def vL(xs:Ab V)(lo hi:Aa Int):(Z0i xs lo hi).length<=xs.length:=by
 unfold Z0i;rw[Qat,QbA];omega
def Zc4(K:Frag):V->Aa Int->Aa Int->Hp->VK->Prop:=λx lo hi H Q=>∃a xs,x=.ref a/\SqT K H a xs /\
 ¬(HT.sIx xs.length 0 lo=0/\HT.sIx xs.length xs.length hi=xs.length)/\∀p,H p=none->Q (.ref p) (upd H p (.tup (Z0i xs lo hi)))
def Z0Q:SlR X (Zc4 X.K):=by
 intro pins s σ H x v t p lo hi u Q I j hs pl l h;obtain⟨a,xs,rfl,n,hw,q⟩:=h;cases j;obtain⟨its,r,f,i⟩:=I.tuple n;have e:its.toArray.size=xs.length:=by rw[Qao];exact r.length.symm
 refine⟨"tuple",_,PyProof.Rows.slot_tuple_getitem.lookup,f.typeIs,?_⟩;refine HT.getItem_tuple_cut f hs pl l (by rw[e];exact hw) ?_ (by rw[e];exact i);rw[e];refine⟨.ref s.heap.objs.size,_,I.laid (t':=s.toks) (o:=.tup (Z0i xs lo hi)) (λb ob q=>Qac _ q) (Qan _) ?_,rfl,q _ (I.hok.fresh (Qan _))⟩;exact⟨QaC (vL xs lo hi) i,_,(r.drop (HT.sIx xs.length 0 lo)).take (HT.sIx xs.length xs.length hi-HT.sIx xs.length 0 lo),IsTup.new _ _⟩
end
def ixN(n:Nat)(i:Int):Aa Nat:=if 0<=i then(if i<n then some i.toNat else none) else if -(n:Int)<=i then some (i+n).toNat else none
def atI{α:Type}(xs:Ab α)(i:Int):Aa α:=(ixN xs.length i).bind λj=>xs[j]?
def Z2A(h:ixN n i=some j):seqIndex? i n=some j/\j<n /\ -(n:Int)<=i/\i<n:=by
 unfold ixN at h;by_cases a:0<=i
 .rw[if_pos a]at h;by_cases h1:i<n
  .rw[if_pos h1]at h;have e:i.toNat=j:=QaI h;exact⟨by rw[seqIndex_of a h1,e],by omega,by omega,h1⟩
  .rw[if_neg h1]at h;cases h
 .rw[if_neg a]at h;by_cases h1:-(n:Int)<=i
  .rw[if_pos h1]at h;have e:(i+n).toNat=j:=QaI h;exact⟨by rw[seqIndex_neg (by omega) h1,e],by omega,h1,by omega⟩
  .rw[if_neg h1]at h;cases h
def R0(h:atI xs i=some v):∃j,seqIndex? i xs.length=some j/\xs[j]?=some v/\j<xs.length /\ -(xs.length:Int)<=i/\i<xs.length:=by
 unfold atI at h;cases e:ixN xs.length i with
 |none=>rw[e]at h;cases h
 |some j =>
  rw[e]at h;obtain⟨h1,b,f,a⟩:=Z2A e;exact⟨j,h1,h,b,f,a⟩
def gM{α:Type}{xs:Ab α}{j:Nat}{v:α}(h:xs[j]?=some v):atI xs (j:Int)=some v:=by
 have a:j<xs.length:=(Qae.mp h).1;have e:ixN xs.length (j:Int)=some j:=by
  unfold ixN;rw[if_pos (by omega),if_pos (by omega)];simp
 unfold atI;rw[e];exact h
def Z70(xs:Ab α)(v:α):atI (xs++[v]) (-1)=some v:=by
 have a:(xs++[v]).length=xs.length+1:=by simp
 have e:ixN (xs++[v]).length (-1)=some xs.length:=by
  unfold ixN;rw[a,if_neg (by decide),if_pos (by omega)];congr 1;omega
 unfold atI;rw[e];show(xs++[v])[xs.length]?=some v;simp
def wQ(b:Ag):Prop:=∀o i,subscripted b false o i=operate [o,i] (getItem o i)
def IxR(X:Cx)(r:R2):Prop :=
 ∀(value slice:Ag) (pins:Ab (Af×Obj)) (s:Ac) (σ:St) (H:Hp) (x y:V) (v u:Ad) (Q:VK),Inv X pins σ H s->RelV x v->RelV y u->r x y H Q ->
  subscripted slice false v u=operate [v,u] (getItem v u)->wpAny (model X.prog X.w) X.A (subscriptTail value slice v u) (EP X pins σ Q) X.xe s
def MtR(X:Cx)(id:String)(r:V->Ab V->Hp->VK->Prop):Prop :=
 ∀(pins:Ab (Af×Obj)) (s:Ac) (σ:St) (H:Hp) (x:V) (xs:Ab V) (v:Ad) (us:Ab Ad) (Q:VK),Inv X pins σ H s->RelV x v->Vals xs us->r x xs H Q ->
  wpAny (model X.prog X.w) X.A (call (.builtin id) (v::us)) (EP X pins σ Q) X.xe s
section
variable {X:Cx}{a b:Ag}{ta tb:TE}{pos:Pos}
def IxR.or(h:IxR X r)(h':IxR X r'):IxR X (λx y H Q=>r x y H Q\/r' x y H Q):=by
 intro value a pins s σ H x y v u Q I b e q hs;rcases q with q|q
 .exact h value a pins s σ H x y v u Q I b e q hs
 .exact h' value a pins s σ H x y v u Q I b e q hs
def Z5M(f:IxR X r)(e:PE X a ta)(i:PE X b tb)(hs:wQ b):PE X (.Subscript a b pos) (tOp r ta tb):=by
 intro pins s σ H Q I h;exact Subscript_ (Zau e i I h λv u s2 x y H2 I2 rx ry q=>f a b pins s2 σ H2 x y v u Q I2 rx ry q (hs _ _))
def ZaY(K:Frag):R2:=λx y H Q=>∃p xs i v,x=.ref p/\y=.int i/\SqL K H p xs/\atI xs i=some v/\Q v H
def ZaW(K:Frag):R2:=λx y H Q=>∃p xs i v,x=.ref p/\y=.int i/\SqT K H p xs/\atI xs i=some v/\Q v H
def ZaX:R2:=λx y H Q=>∃z i c,x=.str z/\y=.int i/\z.length<=sizeLine/\atI z.cps.toList i=some c/\Q (.str ⟨#[c]⟩) H
def ix_list:IxR X (ZaY X.K):=by
 intro value n pins s σ H x y v u Q I E A h hs;obtain⟨p,xs,i,z,rfl,rfl,hq,he,q⟩:=h;cases E;obtain⟨t,rfl⟩:=A;obtain⟨its,r,pl,G⟩:=I.list hq;obtain⟨j,h1,F,J,o,C⟩:=R0 he;obtain⟨w,l,f⟩:=r.get F;have B:=r.length;have L:=tT;have a:EP X pins σ Q w s:=⟨z,H,I,f,q⟩;by_cases e:0<=i
 .have b:i.toNat=j:=by
   rw[seqIndex_of e C]at h1;exact QaI h1
  exact item_listR pl.isList e (by omega) (by rw[b];simpa using l) a hs
 .have b:(i+(its.toArray.size:Int)).toNat=j:=by
   rw[seqIndex_neg (by omega) o]at h1;rw[Qao,<- B];exact QaI h1
  exact subscriptTail_builtinR (x:=w) pl.isList.typeIs slot_list_getitem.lookup
   (wpAny_getItem_list_neg (Q:=λr s'=>r=w/\EP X pins σ Q r s') pl.isList (by omega) (by rw[Qao]<;>omega) (by omega) (by rw[b];simpa using l) ⟨rfl,a⟩) hs
def ix_tup:IxR X (ZaW X.K):=by
 intro value e pins s σ H x y v u Q I n f h hs;obtain⟨p,xs,i,z,rfl,rfl,hq,he,q⟩:=h;cases n;obtain⟨t,rfl⟩:=f;obtain⟨its,r,pl,C⟩:=I.tuple hq;obtain⟨j,h1,A,F,B,E⟩:=R0 he;obtain⟨w,o,b⟩:=r.get A;have l:=r.length;have G:=tT;have a:EP X pins σ Q w s:=⟨z,H,I,b,q⟩;exact subscriptTail_builtinR (x:=w) pl.typeIs slot_tuple_getitem.lookup
  (getItem_tuple (j:=j) (Q:=λr s'=>r=w/\EP X pins σ Q r s') pl (by omega) (by omega) (by rw[Qao,<- l];exact h1) (by simpa using o) ⟨rfl,a⟩) hs
def Zag:IxR X ZaX:=by
 intro value a pins s σ H x y v u Q I e l h hs;obtain⟨z,i,c,rfl,rfl,w,he,q⟩:=h;obtain⟨t,rfl⟩:=e;obtain⟨t',rfl⟩:=l;obtain⟨j,h1,p,B,b,o⟩:=R0 he;have n:z.cps.toList.length=z.length:=by simp[Str.length]
 rw[n]at h1 b o;have A:=tT;exact tail_any (typeIs_str s z t) slot_str_getitem.lookup (getItem_str (c:=c) (by
  have f:decide (i < -(2^63:Int))=false:=Rj (by omega);have r:decide (i ≥ 2^63)=false:=Rj (by omega);rw[f,r,Bool.or_false]) (by rw[h1];simpa using p) ⟨.str ⟨#[c]⟩,H,I.tok _,⟨_,rfl⟩,q⟩) hs
def rIx(K:Frag):R2:=λx y H Q=>ZaY K x y H Q\/ZaW K x y H Q\/ZaX x y H Q
def Z1j:IxR X (rIx X.K):=ix_list.or (ix_tup.or Zag)
def Z1e(its:Ab Ad)(n j:Nat)(u:Ad):Obj.mapSeq (·.setIfInBounds j u) { cls:=.type "list",data:=.seq its.toArray n }={ cls:=.type "list",data:=.seq (its.set j u).toArray n }:=by
 simp[Obj.mapSeq]
theorem Inv.lst(I:Inv X pins σ H s)(h:H p=some (.lst xs)) :
  ∃(its:Ab Ad) (n:Nat),Vals xs its/\s.heap.get? p=some { cls:=.type "list",data:=.seq its.toArray n }/\xs.length<=sizeLine:=by
 obtain⟨z,its,n,r,e⟩:=I.hok p _ h;exact⟨its,n,r,e,z⟩
def Inv.lstUpd{pins:Ab (Af×Obj)}{σ:St}{H:Hp}{s:Ac}{p:Af}{xs ys:Ab V}{its its':Ab Ad}{n a:Nat}{f:Obj->Obj}(I:Inv X pins σ H s)(h:H p=some (.lst xs))
  (j:s.heap.get? p=some { cls:=.type "list",data:=.seq its.toArray n }) (i:f { cls:=.type "list",data:=.seq its.toArray n }={ cls:=.type "list",data:=.seq its'.toArray a }) (r:Vals ys its') (l:ys.length<=sizeLine) (t:Nat) :
  Inv X pins σ (upd H p (.lst ys)) { s with heap:=s.heap.update p f,toks:=t }:=by
 have e:(s.heap.update p f).get? p=some { cls:=.type "list",data:=.seq its'.toArray a }:=by
  rw[Heap.get?_update_self f j (by rw[i]<;>rfl),i]
 refine I.write (x:=p) (e:=p) (by rw[h];trivial) (.inl rfl) (λb u hb q=>(Heap.get?_update_other _ _ (Ne.symm hb)).trans q) ⟨_,e⟩ ?_;exact⟨l,its',a,r,e⟩
def Z5g:V->V->V->Hp->(Hp->Prop)->Prop:=λo i v H Q=>∃p xs k j,o=.ref p/\i=.int k/\H p=some (.lst xs)/\ixN xs.length k=some j/\Q (upd H p (.lst (xs.set j v)))
def U6:ZbB X Z5g:=by
 intro pins s σ H o i v G F u Q I B E C h;obtain⟨p,xs,k,j,rfl,rfl,hp,y,q⟩:=h;cases B;obtain⟨t,rfl⟩:=E;obtain⟨its,n,r,b,A⟩:=I.lst hp;obtain⟨h1,K,w,f⟩:=Z2A y;have a:=r.length;have J:=tT;have x:Inv X pins σ (upd H p (.lst (xs.set j v))) { s with heap:=s.heap.update p (Obj.mapSeq (·.setIfInBounds j u)) } :=
  I.lstUpd hp b (Z1e its n j u) (r.set C j) (by rw[List.length_set];exact A) s.toks
 by_cases l:0<=k
 .have e:k.toNat=j:=by
   rw[seqIndex_of l f]at h1;exact QaI h1
  exact PySem.W.ki_setAt b l (by omega) (by rw[Qao,<- a];exact f) (by rw[e];exact⟨_,x,q⟩)
 .have e:(k+(its.toArray.size:Int)).toNat=j:=by
   rw[seqIndex_neg (by omega) w]at h1;rw[Qao,<- a];exact QaI h1
  exact PySem.W.ki_setBack b (by omega) (by rw[Qao,<- a];exact w) (by omega) (by rw[e];exact⟨_,x,q⟩)
def J5(lo hi:Aa Int)(n:Nat):(sliceBounds lo hi none n).1=((HT.sIx n 0 lo:Nat):Int)/\(sliceBounds lo hi none n).2.1=((HT.sIx n n hi:Nat):Int)/\(sliceBounds lo hi none n).2.2=1:=by
 refine⟨?_,?_,rfl⟩
 .cases lo with
  |none=>simp[sliceBounds,HT.sIx]
  |some i =>
   simp only[sliceBounds,HT.sIx,Option.getD_none,show(1:Int) > 0 by decide,Rm];by_cases h:i<0
   .simp only[h,Rm]<;>omega
   .simp only[h,Rn]<;>omega
 .cases hi with
  |none=>simp[sliceBounds,HT.sIx]
  |some i =>
   simp only[sliceBounds,HT.sIx,Option.getD_none,show(1:Int) > 0 by decide,Rm];by_cases h:i<0
   .simp only[h,Rm]<;>omega
   .simp only[h,Rn]<;>omega
def zU(its:Ab Ad)(lo hi:Aa Int):slicePick its.toArray lo hi none=((its.drop (HT.sIx its.length 0 lo)).take (HT.sIx its.length its.length hi-HT.sIx its.length 0 lo)).toArray:=by
 obtain⟨h1,a,b⟩:=J5 lo hi its.toArray.size;unfold slicePick;rw[h1,a,b];simp only[sliceRange_one,pick_run,Qao]<;>rfl
def Zc5(K:Frag):V->Aa Int->Aa Int->Hp->VK->Prop:=λx lo hi H Q=>∃a xs,x=.ref a/\SqL K H a xs/\∀p,H p=none->Q (.ref p) (upd H p (.lst (Z0i xs lo hi)))
def Z1Y:SlR X (Zc5 X.K):=by
 intro pins s σ H x v t p lo hi u Q I i hs pl j h;obtain⟨a,xs,rfl,n,q⟩:=h;cases i;obtain⟨its,r,f,l⟩:=I.list n;have e:=r.length;refine⟨"list",_,slot_list_getitem.lookup,f.isList.typeIs,?_⟩;refine wpAny_getItem_list_slice f.isList hs pl j .none (by simp) ?_ (by rw[Qao]<;>omega);rw[zU,<- e];refine⟨.ref s.heap.objs.size,_,I.laid (t':=s.toks) (o:=.lst (Z0i xs lo hi)) (λb ob q=>Qac _ q) (Qan _) ?_,rfl,q _ (I.hok.fresh (Qan _))⟩;exact⟨QaC (vL xs lo hi) l,_,0,(r.drop (HT.sIx xs.length 0 lo)).take (HT.sIx xs.length xs.length hi-HT.sIx xs.length 0 lo),Qap _ rfl⟩
def call_len_seq:CallR X (.builtin "len") (λxs H Q=>∃p ys,xs=[.ref p]/\(SqL X.K H p ys\/SqT X.K H p ys)/\Q (.int ys.length) H):=by
 intro pins s σ H xs us Q I r h;obtain⟨p,ys,rfl,hq,q⟩:=h;obtain⟨u,rfl,e⟩:=nQ r;cases e;have i:=tT;rcases hq with hq|hq
 .obtain⟨its,b,pl,f⟩:=I.list hq;have a:=b.length;exact Calls.call_len_list pl.isList (by simp only[Qao]<;>omega) ⟨.int ys.length,H,I.tok _,⟨s.toks+1,by rw[Qao,a]⟩,q⟩
 .obtain⟨its,b,pl,f⟩:=I.tuple hq;have a:=b.length;exact len_tuple pl (by simp only[Qao]<;>omega) ⟨.int ys.length,H,I.tok _,⟨s.toks+1,by rw[Qao,a]⟩,q⟩
def Q6:CallR X (.builtin "len") (λxs H Q=>∃z,xs=[.str z]/\z.length<=sizeLine/\Q (.int z.length) H):=by
 intro pins s σ H xs us Q I r h;obtain⟨z,rfl,a,q⟩:=h;obtain⟨u,rfl,t,rfl⟩:=nQ r;have b:=tT;exact len_str (by omega) ⟨.int z.length,H,I.tok _,⟨_,rfl⟩,q⟩
def CallR.or(h:CallR X f r)(h':CallR X f r'):CallR X f (λxs H Q=>r xs H Q\/r' xs H Q):=by
 intro pins s σ H xs us Q I rs q;rcases q with q|q
 .exact h pins s σ H xs us Q I rs q
 .exact h' pins s σ H xs us Q I rs q
def Q5:CallR X (.type "list") (λxs H Q=>∃p ys,xs=[.ref p]/\(SqL X.K H p ys\/SqT X.K H p ys)/\∀l,H l=none->Q (.ref l) (upd H l (.lst ys))):=by
 intro pins s σ H xs us Q I r h;obtain⟨p,ys,rfl,hq,q⟩:=h;obtain⟨u,rfl,x⟩:=nQ r;cases x;have j:∀(its:Ab Ad),Vals ys its->ys.length<=sizeLine->∀(h':Ah) (c':Nat),(∀b o',s.heap.get? b=some o'->h'.get? b=some o') ->
   h'.get? s.heap.objs.size=some { cls:=.type "list",dict:=none,data:=.seq its.toArray c',slots:=#[] }->EP X pins σ Q (.ref s.heap.objs.size) { s with heap:=h' }:=λits a i h' c' f e =>
  ⟨.ref s.heap.objs.size,_,I.laid (t':=s.toks) f (Qan _) (show ObjOk X.prog X.w _ h' _ (.lst ys) from⟨i,its,c',a,e⟩),rfl,q _ (I.hok.fresh (Qan _))⟩
 rcases hq with hq|hq
 .obtain⟨its,a,pl,i⟩:=I.list hq;have t:=a.length;obtain⟨o,v,hc,n,hd⟩:=pl.isList;exact call_list_seq p (.inl rfl) v hc hd (λh' c' f e=>j its a i h' c' f e) (by simp only[Qao]<;>omega)
 .obtain⟨its,a,pl,i⟩:=I.tuple hq;have t:=a.length;obtain⟨o,v,hc,n,hd⟩:=pl;exact call_list_seq p (.inr rfl) v hc hd (λh' c' f e=>j its a i h' c' f e) (by simp only[Qao]<;>omega)
def A9:CallR X (.type "tuple") (λxs H Q=>∃p ys,xs=[.ref p]/\((SqL X.K H p ys/\∀l,H l=none->Q (.ref l) (upd H l (.tup ys)))\/(SqT X.K H p ys/\Q (.ref p) H))):=by
 intro pins s σ H xs us Q I r h;obtain⟨p,ys,rfl,h⟩:=h;obtain⟨u,rfl,j⟩:=nQ r;cases j;rcases h with⟨hq,q⟩|⟨hq,q⟩
 .obtain⟨its,a,pl,f⟩:=I.list hq;have n:=a.length;refine call_tuple_list pl.isList (λh' kp=>?_) (by simp only[Qao]<;>omega);have i:Inv X pins σ H { s with heap:=h' }:=I.kept (t':=s.toks) kp;have t:Inv X pins σ (upd H h'.objs.size (.tup ys)) { s with heap:=h'.push { cls:=.type "tuple",data:=.seq its.toArray } } :=
   i.laid (t':=s.toks) (λb o e=>Qac _ e) (Qan _) (show ObjOk X.prog X.w _ _ _ (.tup ys) from⟨f,its,a,IsTup.new _ _⟩)
  exact⟨.ref h'.objs.size,_,t,rfl,q _ (i.hok.fresh (Qan _))⟩
 .obtain⟨its,a,pl,f⟩:=I.tuple hq;exact call_tuple_same pl ⟨.ref p,H,I,rfl,q⟩
def tyV(K:Frag)(T:String)(x:V)(H:Hp):Prop:=match x with
 | .str _=>T = "str"
 | .int _=>T = "int"
 | .ref p=>(T = "list" /\ ∃ xs,SqL K H p xs) \/ (T = "tuple" /\ ∃ o,K.lookup p=some o /\ o.cls=.type "tuple" /\ o.dict=none) \/
   (T = "dict" /\ ((∃kvs,H p=some (.dK kvs))\/∃es ep,H p=some (.dE es ep)))\/(T = "set" /\ ∃S n,H p=some (.set S n))
 |_=>False
def Z9l(I:Inv X pins σ H s)(r:RelV x v)(ty:tyV X.K T x H) :
  s.TypeIs v T/\∀a,v=.ref a->∃ob,s.heap.get? a=some ob/\ob.dict=none:=by
 cases x with
 |str z =>
  obtain⟨t,rfl⟩:=r;cases (show T = "str" from ty)
  exact⟨typeIs_str s z t,λ_ e=>nomatch e⟩
 |int i =>
  obtain⟨t,rfl⟩:=r;cases (show T = "int" from ty)
  exact⟨typeIs_int s i t,λ_ e=>nomatch e⟩
 |ref p =>
  cases r;rcases ty with⟨rfl,xs,hq⟩|⟨rfl,o,b,hc,hd⟩|⟨rfl,b⟩|⟨rfl,S,n,b⟩
  .obtain⟨its,_,pl,_⟩:=I.list hq;refine⟨pl.isList.typeIs,λa e=>?_⟩;cases e;obtain⟨o,n,e,c,hd,_⟩:=pl;exact⟨o,e,hd⟩
  .refine⟨⟨o,I.kIn p o b,hc⟩,λa e=>?_⟩;cases e;exact⟨o,I.kIn _ o b,hd⟩
  .have z:∃o,s.heap.get? p=some o/\o.ExactDict:=by
    rcases b with⟨kvs,b⟩|⟨kvs,ep,b⟩
    .obtain⟨_,_,_,_,o,_,_,e,ex,_⟩:=I.hok p _ b;exact⟨o,e,ex⟩
    .obtain⟨_,_,_,_,o,_,e,ex,_⟩:=I.hok p _ b;exact⟨o,e,ex⟩
   obtain⟨o,e,ex⟩:=z;refine⟨⟨o,e,ex.1⟩,λa e2=>?_⟩;cases e2;exact⟨o,e,ex.2.1⟩
  .obtain⟨o,_,_,_,e,ex,_⟩:=I.hok p _ b;refine⟨⟨o,e,ex.1⟩,λa e2=>?_⟩;cases e2;exact⟨o,e,ex.2.1⟩
 |_=>exact False.elim ty
def tBM(K:Frag)(T:String)(r:V->Ab V->Hp->VK->Prop)(to:TE)(t:TA):TE:=λσ H Q=>to σ H λx H1=>tyV K T x H1/\t σ H1 λxs H2=>r x xs H2 Q
variable {o e:Ag}{es:Ab Ag}{to:TE}{t:TA}{name:Str}{apos cpos:Pos}{T id:String}{r:V->Ab V->Hp->VK->Prop}
def Z2m(p:PlainAttrs T)(i:Slot T name id)(n:typeOf (.builtin id)=pure (.type "method_descriptor"))(w:MtR X id r)(u:PE X o to)(q:PA X (e::es) t)
  (b:attributeBase o name X.env (eval o X.env)=eval o X.env:=by rfl)
  (j:((backTo cpos (starEach (e :: es) X.env)).all (fun x=>!x.1) && (backToKw cpos (keywordEach [] X.env)).all (fun x=>x.1.isSome)
   && decide ((e::es).length+([]:Ab Keyword).length+(if ([]:Ab Keyword).isEmpty then 0 else 1)<30))=true:=by rfl)
  (f:(apos.endLine==cpos.line)=true:=by rfl) (hs:sEa e es X.env:=by rfl) (a:bTa cpos es X.env:=by rfl) :
  PE X (.Call (.Attribute o name apos) (e::es) [] cpos) (tBM X.K T r to t):=by
 intro pins s σ H Q I h;refine wpAny_Call_method_late b j f rfl (thn (u pins s σ H _ I h) λv s1 ⟨x,H1,I1,r1,ty,q1⟩=>?_);obtain⟨h1,y⟩:=Z9l I1 r1 ty;refine⟨T,id,p,i,n,h1,y,?_⟩;have l:=q cpos pins s1 σ H1 _ I1 q1;rw[hs]at l ⊢;refine Calls.callWith_builtin (by show(false||(backTo cpos (starEach es X.env)).any (·.1))=false;rw[a]<;>rfl) (Calls.evalArgs_plain ?_);exact thn l λus s2 ⟨vs,H2,I2,r2,q2⟩=>w pins s2 σ H2 x vs v us Q I2 r1 r2 q2
end
def MtM(X:Cx)(id:String)(r:V->Ab V->Hp->VK->Prop):Prop :=
 ∀(pins:Ab (Af×Obj)) (s:Ac) (σ:St) (H:Hp) (x:V) (xs:Ab V) (v:Ad) (us:Ab Ad) (Q:VK),Inv X pins σ H s->RelV x v->Vals xs us->r x xs H Q ->
  wpAny (model X.prog X.w) X.A (call (.builtin id) (v::us)) (EP X pins σ Q) X.xe s
def Vals.one:∀{x:V}{us:Ab Ad},Vals [x] us->∃u,us=[u]/\RelV x u
 |_,_,.cons r .nil=>⟨_,rfl,r⟩
theorem Vals.reverse(h:Vals xs us):Vals xs.reverse us.reverse:=by
 induction h with
 |nil=>exact .nil
 |cons r t ih=>rw[List.reverse_cons,List.reverse_cons];exact Vals.append ih (.cons r .nil)
section
variable {X:Cx}{pins:Ab (Af×Obj)}{σ:St}{H:Hp}{s:Ac}{l:Af}{xs ys:Ab V}
def Inv.lset{its its':Ab Ad}{n:Nat}{f:Ae Ad->Ae Ad}{t':Nat}(I:Inv X pins σ H s)(b:H l=some (.lst xs))
  (e:s.heap.get? l=some { cls:=.type "list",data:=.seq its.toArray n }) (a:f its.toArray=its'.toArray) (h:Vals ys its') (i:ys.length<=sizeLine) :
  Inv X pins σ (upd H l (.lst ys)) { s with heap:=s.heap.update l (Obj.mapSeq f),toks:=t' }:=by
 have q:=PySem.IsL.update e f;rw[a]at q;refine I.write (x:=l) (e:=l) (by rw[b];exact trivial) (.inl rfl) (λb' u hb hu=>(Heap.get?_update_other s.heap (Obj.mapSeq f) (Ne.symm hb)).trans hu) ⟨_,q⟩ ?_;exact⟨i,its',_,h,q⟩
def Inv.lnew(I:Inv X pins σ H s)(a:Vals ys its)(b:ys.length<=sizeLine) :
  Inv X pins σ (upd H s.heap.objs.size (.lst ys)) { s with heap:=s.heap.push { cls:=.type "list",data:=.seq its.toArray },toks:=t' } :=
 I.laid (λ_ _ q=>Qac _ q) (Qan _) ⟨b,its,0,a,Qap _ rfl⟩
theorem Inv.fresh(I:Inv X pins σ H s):H s.heap.objs.size=none:=I.hok.fresh (Qan _)
def Inv.lstM(I:Inv X pins σ H s)(a:H l=some (.lst xs)):xs.length<=sizeLine/\∃(its:Ab Ad) (n:Nat),Vals xs its/\xs.length=its.length/\s.heap.get? l=some { cls:=.type "list",data:=.seq its.toArray n }:=by
 obtain⟨z,its,n,r,e⟩:=I.hok l _ a;exact⟨z,its,n,r,r.length,e⟩
end
section
variable {X:Cx}
def L5:V->Ab V->Hp->VK->Prop:=λx vs H Q=>∃l xs y,x=.ref l/\vs=[y]/\H l=some (.lst xs)/\xs.length<sizeLine/\Q .non (upd H l (.lst (xs++[y])))
def tL:MtM X "list.append" L5:=by
 intro pins s σ H x vs v us Q I f i h;obtain⟨l,xs,y,rfl,rfl,a,j,q⟩:=h;cases f;obtain⟨u,rfl,b⟩:=i.one;obtain⟨z,its,n,r,o,e⟩:=I.lstM a;refine call_meets F.slot_list_append ⟨_,e,rfl⟩ F.entry_list_append (F.args_list_append_2 _ _) (PySem.list_append l its.toArray n u (by rw[Qao];omega)) ⟨e,?_⟩;refine⟨.non,_,I.lset (its':=its++[u]) a e (by simp) (r.append (.cons b .nil)) ?_,rfl,q⟩;rw[Qam,QaX];omega
def Zb0:R2:=λx y H Q=>∃l b xs zs,x=.ref l/\y=.ref b/\H l=some (.lst xs)/\H b=some (.lst zs)/\xs.length+zs.length<=sizeLine/\∀p,H p=none->Q (.ref p) (upd H p (.lst (xs++zs)))
def Z5R:OpR X (binaryOp .Add) Zb0:=by
 intro pins s σ H x y v u Q I f o h;obtain⟨l,b,xs,B,rfl,rfl,i,p,C,q⟩:=h;cases f;cases o;obtain⟨z,its,n,r,E,e⟩:=I.lstM i;obtain⟨G,a,F,t,A,w⟩:=I.lstM p;refine PySem.P.add_list e w ?_ (by rw[Qao,Qao];omega);have j:its.toArray++a.toArray=(its++a).toArray:=by simp
 rw[j];exact⟨.ref _,_,I.lnew (t':=s.toks) (r.append t) (by rw[Qam];omega),rfl,q _ I.fresh⟩
end
section
set_option maxRecDepth 100000 in
end
end L2
namespace Att
open PySem PySem.W PySem.Calls PyProof.Rows
def vY:∀(ns:Ab Int) (vs:Ab Ad),WellAll P h vs (ns.map WData.int)->IntsAre vs ns:=by
 intro ns
 induction ns with
 |nil =>
  intro vs w;rw[QaT]at w;cases w;exact .nil
 |cons n ns ih =>
  intro vs w;rw[Qak]at w;cases w with
  |cons a b =>
   cases a;exact .cons _ _ (ih _ b)
def Z3h{l:OpenLaw}{n:Nat}(t:l.most=some n){P:Params}{h:Ah}{args:Ab WData}{b:Ab Ad}
  (e:l.row.toRowW.claim.pre args=true) (o:WellAll P h b args) :
  ∃a vs ns,b=[Value.ref a]/\args=[WData.list (ns.map WData.int)]/\h.get? a=some { cls:=.type "list",data:=.seq vs.toArray }/\IntsAre vs ns/\ns.length<=n:=by
 have p:WShape.hasAll [] args [.list .int]=true:=(pre_splitW e).1;have hc:l.pre.holds [] { args:=args }=true:=(pre_splitW e).2;obtain⟨d,r,rfl,h1,u⟩:=hasAllW_cons p;obtain rfl:=hasAllW_nil u;obtain⟨xs,rfl,w⟩:=hasW_list h1;obtain⟨ns,rfl⟩:=items_int w;have j:ns.length<=n:=by
  unfold OpenLaw.pre at hc;have f:(WTm.not (.lt (.lit (.int (n:Int))) (.len (.arg 0)))).holds [] { args:=[.list (ns.map .int)] }=true:=by
   have f:=(holds_andW hc).1;rw[t]at f;exact f
  have i:=condW_of f (w_not (w_lt w_lit (w_len_list (w_arg rfl))));rw[Qaa]at i;refine Nat.le_of_not_lt λq=>?_;have v:(n:Int)<((ns.length:Nat):Int):=by omega
  first
   |(rw[Rk v]at i;exact absurd i (by decide))
   |(simp at i;omega)
 cases o with
 |cons w1 w2 =>
  cases w2;cases w1 with
  |list ho hall=>exact⟨_,_,ns,rfl,rfl,ho,vY ns _ hall,j⟩
def Z3K(l:OpenLaw)(args:Ab WData):l.row.toRowW.claim.post args (.bool true) args=true :=
 postW_of (r:=l.row.toRowW) (X:=(true==true))
  (show WShape.has [] (.bool true) .bool=true by first|rfl|decide|simp[WShape.has,WShape.arms,WShape.armsAll])
  (show(WTm.eq .res (.lit (.bool true))).value [] { args:=args,res:=some (.bool true),after:=args }=some (.bool (true==true)) from w_eq_bool (w_res rfl) w_lit) rfl
end Att
namespace L2
open PySem PySem.Spec PyProof.Rows
theorem pB:∀{vs:Ab Ad}{ns:Ab Int},IntsAre vs ns->Vals (ns.map V.int) vs
 |_,_,.nil=>.nil
 |_,_,.cons n t h=>.cons ⟨t,rfl⟩ (pB h)
def ZbC(H:Hp):Prop:=∀b,H b=none\/∃o xs,H b=some (.frz o (.lst xs))
def Z68{P:Aj}{w:Ak}{K:Frag}{mg E:Str->Aa Ad}{CX:CXT}{k:Nat}{fa a:Af}{fd:FuncData}{x:Str}{sp:Sp}{s₁:Ac}{vs:Ab Ad}{ns:Ab Int}
  (X:K.In s₁.heap) (B:s₁.heap.Ns mainGlobals mg) (f:s₁.heap.Ns builtinsNs E) (T:∀x:Str,x ≠ "__name__" -> E x=bootBuiltins x) (J:s₁.heap.NoLimit) (hg:s₁.gens = #[])
  (t:s₁.heap.get? a=some { cls:=.type "list",data:=.seq vs.toArray }) (hi:IntsAre vs ns) (S:ns.length<=sizeLine) (hr:Room k callerA)
  (F:∀base:Ah,K.In base->base.Ns mainGlobals mg->iF P w K mg base CX k fa fd [x] sp) (y:∀(s:Ac) (u:Ad),BindsTo s fd ⟨[u],[]⟩ [(x,u)])
  (Q:∀H:Hp,ZbC H->SqL K H a (ns.map V.int)->sp [.ref a] H (λv _=>v=.bl true) λ_ _ _=>False)
  (Y:∀H e s',CX [] H s₁ (λ_ _ _=>False) e s'->False) :
  codeAny (model P w) callerA (.call (.ref fa) ⟨[.ref a],[]⟩) (λr s'=>r=.ok (.ret (.bool true))/\OldK s₁.heap s'.heap/\s'.os=s₁.os/\AllBare s'.gens) s₁:=by
 have W:=pB hi;have G:=hi.length
 -- from an abstract heap in which nothing but the script may be tracked
 have p:∀H:Hp,ZbC H->SqL K H a (ns.map V.int)->HOk P w H s₁.heap->(∀b,H b≠none->b=a)->(H a≠none->K.lookup a=none) ->
   codeAny (model P w) callerA (.call (.ref fa) ⟨[.ref a],[]⟩) (λr s'=>r=.ok (.ret (.bool true))/\OldK s₁.heap s'.heap/\s'.os=s₁.os/\AllBare s'.gens) s₁:=by
  intro H U hS C R hK;have i:∀{b:Af}{o:Obj},s₁.heap.get? b=some o->H b=none->(P1 s₁.heap H).get? b=some o:=λe n=>Z6l e n;have Z:∀{b:Af}{o:Obj}{es:Ae DictEntry}{ep:Nat},s₁.heap.get? b=some o->o.data=.dict es ep->H b=none:=λ{b o es ep} e d=>by
   cases q:H b with
   |none=>rfl
   |some u =>
    have I:b=a:=R b (by rw[q];simp);subst I;rw[t]at e;cases e;have d':Data.seq vs.toArray _=Data.dict es ep:=d;cases d'
  have j:∀{b:Af}{m:Str->Aa Ad},s₁.heap.Ns b m->(P1 s₁.heap H).Ns b m:=λ{b m} ⟨o,es,ep,e,d,r⟩=>⟨o,es,ep,i e (Z e d),d,r⟩;have A:K.In (P1 s₁.heap H):=λb o e=>i (X b o e) (by
   cases q:H b with
   |none=>rfl
   |some u =>
    have I:b=a:=R b (by rw[q];simp);subst I;rw[hK (by rw[q];simp)]at e;cases e)
  have hM:Mod K mg (P1 s₁.heap H):=⟨A,j B,⟨E,j f,T⟩,let ⟨mc,h1,h2⟩:=J;⟨mc,j h1,h2⟩⟩;have e0:Env0 P w K mg (P1 s₁.heap H) callerA [] s₁ H:=⟨rfl,hM,λb o e=>Z89 e,Nat.le_of_eq (Z41 _ _),trivial,λb f=>absurd (show b∈([]:Ab Af) from f) (by simp),C,.of_eq hg⟩
  refine codeAny_mono ((F _ A (j B)).run callerA [] s₁ H ⟨[.ref a],[]⟩ [.ref a] [.ref a] _ _ hr e0 (y s₁ (.ref a)) (.cons rfl .nil) (Q H U hS)) λr s' h=>?_;cases r with
  |error e=>exact(Y H e s' h).elim
  |ok fl =>
   cases fl with
   |next=>exact False.elim h
   |brk=>exact False.elim h
   |cont=>exact False.elim h
   |ret u =>
    obtain⟨v,H',os,L,un,M,r',q⟩:=h;have q':v=.bl true:=q;subst q';obtain rfl:u=Value.bool true:=r';refine⟨rfl,OldK.of_keep λb o e=>?_,os,L⟩;cases q:H b with
    |none=>exact un.keep b o e q (by intro z;exact absurd (show b∈([]:Ab Af) from z) (by simp)) (by simp)
    |some u =>
     rcases U b with z|⟨ob,xs,z⟩
     .rw[q]at z;cases z
     .have z2:=un.frzs b ob _ z;obtain⟨O,_⟩:=C b _ z;obtain⟨e2,_⟩:=M b _ z2;rw[e]at O;cases O;exact e2
 cases N:K.lookup a with
 |some o =>
  -- the script is one of the module's own objects
  have e:=X a o N;rw[t]at e;cases e;refine p (λ_=>none) (λ_=>.inl rfl) (.inr ⟨_,vs.toArray,_,N,rfl,rfl,rfl,by rw[Qao,G];exact S,by simpa using W⟩) (λb u z=>by have l:(none:Aa HO)=some u:=z;cases l) (λb z=>absurd rfl z) λz=>absurd rfl z
 |none =>
  refine p (λb=>if b=a then some (.frz { cls:=.type "list",data:=.seq vs.toArray } (.lst (ns.map V.int))) else none) (λb=>?_) (.inl (.inr ⟨{ cls:=.type "list",data:=.seq vs.toArray },if_pos rfl⟩)) (λb u z=>?_) (λb z=>?_) λ_=>N
  .by_cases f:b=a
   .exact .inr ⟨_,_,if_pos f⟩
   .exact .inl (if_neg f)
  .by_cases f:b=a
   .have l:=(if_pos f).symm.trans z;cases l;subst f;exact⟨t,by rw[Qaa];exact S,vs,_,W,t⟩
   .have l:=(if_neg f).symm.trans z;cases l
  .by_cases f:b=a
   .exact f
   .exact absurd (if_neg f) z
def O9(s:Stmt)(j:Nat):Stmt:=match s with
 | .ClassDef _ _ _ body _ _ _ _ _ _ _=>body.getD j (.Pass ⟨0,0,0,0⟩)
 |_=>.Pass ⟨0,0,0,0⟩
def dY(s:Stmt):Arguments:=match s with
 | .FunctionDef _ a _ _ _ _ _ _ _ _=>a
 |_=>{ posonlyargs:=[],args:=[],vararg:=none,kwonlyargs:=[],kw_defaults:=[],kwarg:=none,defaults:=[] }
def cO(s:Stmt):Ab Stmt:=match s with
 | .FunctionDef _ _ b _ _ _ _ _ _ _=>b
 |_=>[]
def aT(s:Stmt):Scope:=match s with
 | .FunctionDef _ _ _ _ _ _ sc _ _ _=>sc
 |_=>{ kind:=.function,names:=[],isGenerator:=false,isCoroutine:=false }
abbrev CX0:CXT:=λ_ _ _ _ _ _=>False
abbrev E0:XK:=λ_ _ _=>False
def Z2n:uQ CX0 X E0:=λ_ _ _ _ _ _ _ h=>h.elim
structure Fun(K:Frag)(x qual:Str)(st:Stmt)(f:Addr)(fd:FuncData):Prop where
 ex:∃(oc:Ad) (od:Aa Af) (kV doc pm:Ad) (an:Aa Af) (cdv ct:Ad) (osl:Ae (Aa Ad)),
  fd=fnOf x qual (dY st) (cO st) (aT st) .none kV doc pm an cdv ct/\K.lookup f=some ⟨oc,od,.func fd,osl⟩/\codeIn K cdv qual=true
 kp:keepIn K (.ref f)=true
def Z2D(a:Room k A):A.units+1<cLine:=Nat.lt_of_le_of_lt (Nat.add_le_add_left (by decide:1<=64) _) a.units
def iK(h:n<=1000):n<sizeLine:=Nat.lt_of_le_of_lt h (by decide)
section
variable {X:Cx}
def pv(i:Nat){x:Str}{pos:Pos}(e:X.N[i]?=some x:=by rfl)(b:Vis X.env.scope x:=by first|exact Or.inl rfl|exact Or.inr (Or.inl rfl)|exact Or.inr (Or.inr rfl))(hd:nDb x:=by decide)
  (a:(x==("__classdict__" : Str))=false:=by decide):PE X (.Name x pos) (wZ i):=jG e b hd a
end
def Z7{A B:Prop}(h:B):if false=true then A else B:=by
 rw[if_neg Qbb];exact h
def Z6{A B:Prop}(h:A):if true=true then A else B:=by
 rw[if_pos rfl];exact h
def Same(H H':Hp):Prop:=∀b o,H b=some o->H' b=some o
def Same.refl(H:Hp):Same H H:=λ_ _ h=>h
def Same.trans(a:Same H H1)(b:Same H1 H2):Same H H2:=λc o h=>b c o (a c o h)
def Same.free(e:Same H H'){l:Af}(h:H' l=Option.none):H l=Option.none:=by
 cases q:H l with
 |none=>rfl
 |some o =>
  rw[e l o q]at h;cases h
section
variable {κ:Type}[DecidableEq κ]
def rF(kvs:Ab (κ×V))(k:κ):Aa V:=(kvs.find? λkv=>decide (kv.1=k)).map (·.2)
def tJ(kvs:Ab (κ×V))(k:κ)(v:V):Ab (κ×V) :=
 if (kvs.any λkv=>decide (kv.1=k))=true then kvs.map (λkv=>if kv.1=k then(kv.1,v) else kv) else kvs++[(k,v)]
def rD{p:κ×V}{r:Ab (κ×V)}{k:κ}(e:p.1=k):rF (p::r) k=some p.2:=by simp[rF,Qa0,e]
def rE{p:κ×V}{r:Ab (κ×V)}{k:κ}(e:¬p.1=k):rF (p::r) k=rF r k:=by simp[rF,Qa0,e]
theorem U0(k:κ):∀kvs:Ab (κ×V),(kvs.any λa=>decide (a.1=k))=(rF kvs k).isSome
 |[]=>rfl
 |p::r=>by
  rw[List.any_cons];by_cases e:p.1=k
  .simp only[rD e,Rk e,Bool.true_or,Option.isSome_some]
  .rw[rE e,Rj e,Bool.false_or];exact U0 k r
def vB(kvs:Ab (κ×V))(k:κ)(v:V):(tJ kvs k v).length<=kvs.length+1:=by
 unfold tJ;split
 .rw[Qaa];omega
 .rw[Qam,Qaf,Qa8];omega
def RelO.isSome_eq{o:Aa V}{u:Aa Ad}(r:RelO o u):o.isSome=u.isSome:=by
 cases o with
 |none=>cases u with
  |none=>rfl
  |some _=>exact(show False from r).elim
 |some _=>cases u with
  |none=>exact(show False from r).elim
  |some _=>rfl
def KV.val{kvs:Ab (κ×V)}{vs:Ab (κ×Ad)}(r:KV kvs vs)(k:κ):RelO (rF kvs k) (valueAt vs k):=by
 unfold KV at r
 induction r with
 |nil=>exact True.intro
 | @cons p q ps qs h t ih =>
  obtain⟨h1,f⟩:=h;by_cases e:p.1=k
  .have a:q.1=k:=h1.symm.trans e;have b:valueAt (q::qs) k=some q.2:=by simp[valueAt,Qa0,a]
   rw[rD e,b];exact f
  .have a:¬q.1=k:=λz=>e (h1.trans z);have b:valueAt (q::qs) k=valueAt qs k:=by simp[valueAt,Qa0,a]
   rw[rE e,b];exact ih
theorem KV.any{kvs:Ab (κ×V)}{vs:Ab (κ×Ad)}(r:KV kvs vs)(k:κ):(kvs.any λa=>decide (a.1=k))=vs.any λa=>decide (a.1=k):=by
 unfold KV at r
 induction r with
 |nil=>rfl
 |cons h t ih=>rw[List.any_cons,List.any_cons,ih,h.1]
def KV.repl{kvs:Ab (κ×V)}{vs:Ab (κ×Ad)}(r:KV kvs vs)(k:κ){y:V}{u:Ad}(f:RelV y u) :
  KV (kvs.map λa=>if a.1=k then(a.1,y) else a) (vs.map λa=>if a.1=k then(a.1,u) else a):=by
 unfold KV at r ⊢
 induction r with
 |nil=>exact .nil
 | @cons p q ps qs h t ih =>
  rw[Qak,Qak];refine .cons ?_ ih;obtain⟨h1,b⟩:=h;by_cases e:p.1=k
  .rw[if_pos e,if_pos (h1.symm.trans e)];exact⟨h1,f⟩
  .rw[if_neg e,if_neg (λz=>e (h1.trans z))];exact⟨h1,b⟩
def KV.put{kvs:Ab (κ×V)}{vs:Ab (κ×Ad)}(r:KV kvs vs)(k:κ){y:V}{u:Ad}(a:RelV y u):KV (tJ kvs k y) (stored vs k u):=by
 unfold tJ stored;rw[r.any k];by_cases e:(vs.any λb=>decide (b.1=k))=true
 .rw[if_pos e,if_pos e];exact r.repl k a
 .rw[if_neg e,if_neg e];exact Paired.snoc r ⟨rfl,a⟩
def KV.keys{kvs:Ab (κ×V)}{vs:Ab (κ×Ad)}(r:KV kvs vs):kvs.map (·.1)=vs.map (·.1):=by
 unfold KV at r
 induction r with
 |nil=>rfl
 |cons h t ih=>rw[Qak,Qak,ih,h.1]
theorem KV.length{kvs:Ab (κ×V)}{vs:Ab (κ×Ad)}(r:KV kvs vs):kvs.length=vs.length:=Paired.length r
end
def Z6d{P:Aj}{w:Ak}{k:Key}{u:Ad}(r:RelV (kV k) u):(dI P w).is k u=true:=by
 cases k with
 |inl i=>obtain⟨t,e⟩:=(show ∃t,u=Value.int i t from r);subst e;exact Y7 P w i t
 |inr x=>obtain⟨t,e⟩:=(show ∃t,u=Value.str x t from r);subst e;exact Y6 P w x t
theorem tY{P:Aj}{w:Ak}:∀{ks:Ab Key}{us:Ab Ad},Vals (ks.map kV) us->ItemsAre (dI P w) ks us
 |[],_,r=>by rw[QaT]at r;cases r;exact .nil
 |k::ks,_,r=>by
  rw[Qak]at r;cases r with
  |cons h t=>exact .cons (Z6d h) (tY t)
abbrev KT(H:Hp):Ab (Ab Key×V)->Ab (Ab Key×Af×Ad)->Prop:=Paired λp q=>p.1=q.1/\H q.2.1=some (.tup (p.1.map kV))/\RelV p.2 q.2.2
def KT.val{H:Hp}{kvs:Ab (Ab Key×V)}{xs:Ab (Ab Key×Af×Ad)}(r:KT H kvs xs)(k:Ab Key):RelO (rF kvs k) ((atKey xs k).map (·.2)):=by
 induction r with
 |nil=>exact True.intro
 | @cons p q ps qs h t ih =>
  obtain⟨h1,_,f⟩:=h;by_cases e:p.1=k
  .have a:q.1=k:=h1.symm.trans e;have b:atKey (q::qs) k=some q.2:=by simp[atKey,Qa0,a]
   rw[rD e,b];exact f
  .have a:¬q.1=k:=λz=>e (h1.trans z);have b:atKey (q::qs) k=atKey qs k:=by simp[atKey,Qa0,a]
   rw[rE e,b];exact ih
def KT.repl{H:Hp}{kvs:Ab (Ab Key×V)}{xs:Ab (Ab Key×Af×Ad)}(r:KT H kvs xs)(k:Ab Key){y:V}{u:Ad}(f:RelV y u) :
  KT H (kvs.map λa=>if a.1=k then(a.1,y) else a) (xs.map (putAt k u)):=by
 induction r with
 |nil=>exact .nil
 | @cons p q ps qs h t ih =>
  rw[Qak,Qak];refine .cons ?_ ih;obtain⟨h1,b,i⟩:=h;unfold putAt;by_cases e:p.1=k
  .rw[if_pos e,if_pos (h1.symm.trans e)];exact⟨h1,b,f⟩
  .rw[if_neg e,if_neg (λz=>e (h1.trans z))];exact⟨h1,b,i⟩
def KT.put{H:Hp}{kvs:Ab (Ab Key×V)}{xs:Ab (Ab Key×Af×Ad)}(r:KT H kvs xs)(k:Ab Key){b:Af}{y:V}{u:Ad}(h:H b=some (.tup (k.map kV)))(a:RelV y u) :
  KT H (tJ kvs k y) (storedH xs k b u):=by
 have e:(kvs.any λf=>decide (f.1=k))=(atKey xs k).isSome:=by
  rw[U0,(r.val k).isSome_eq,Option.isSome_map]
 unfold tJ storedH;rw[e];by_cases q:(atKey xs k).isSome=true
 .rw[if_pos q,if_pos q];exact r.repl k a
 .rw[if_neg q,if_neg q];exact Paired.snoc r ⟨rfl,h,a⟩
def KT.keeps{H H':Hp}{kvs:Ab (Ab Key×V)}{xs:Ab (Ab Key×Af×Ad)}(r:KT H kvs xs)(a:∀b ys,H b=some (.tup ys)->H' b=some (.tup ys)):KT H' kvs xs :=
 Paired.mapP r λ_ _ z=>⟨z.1,a _ _ z.2.1,z.2.2⟩
section
variable {P:Aj}{w:Ak}{H:Hp}{h:Ah}{a:Af}
def Z8Y{u:HO}(ok:HOk P w H h)(e:Rd H a u):ObjOk P w H h a u:=e.ok ok
def Z9e{kvs:Ab (Key×V)}(ok:HOk P w H h)(e:Rd H a (.dK kvs)):kvs.length<=sizeLine/\(a==sysModules)=false/\∃vs,KV kvs vs/\h.DictOf (dI P w) a vs :=
 show ObjOk P w H h a (.dK kvs) from Z8Y ok e
def Z9f{kvs:Ab (Key×V)}(ok:HOk P w H h)(e:H a=some (.dK kvs)):kvs.length<=sizeLine/\(a==sysModules)=false/\∃vs,KV kvs vs/\h.DictOf (dI P w) a vs:=Z9e ok (.inl e)
def Z1i{ks:Ab Key}(ok:HOk P w H h)(e:H a=some (.tup (ks.map kV))):(tupleKind (dI P w)).is h ks a:=by
 obtain⟨_,its,r,o,h1,b,n,f⟩:=(show ObjOk P w H h a (.tup (ks.map kV)) from ok a _ e)
 exact⟨o,its.toArray,n,h1,b,f,by simpa using tY r⟩
def Z6H{kvs:Ab (Ab Key×V)}(ok:HOk P w H h)(e:Rd H a (.dT kvs)):kvs.length<=sizeLine/\(a==sysModules)=false /\
  ∃xs,KT H kvs xs/\h.DictOfH (tupleKind (dI P w)) a xs:=by
 obtain⟨z,y,xs,r,o,es,ep,h1,j,n,f,i⟩:=(show ObjOk P w H h a (.dT kvs) from Z8Y ok e)
 refine⟨z,y,xs,r,o,es,ep,h1,j,n,f,λx b=>?_,i⟩;have all:∀{l:Ab (Ab Key×V)}{m:Ab (Ab Key×Af×Ad)},KT H l m->∀x∈m,(tupleKind (dI P w)).is h x.1 x.2.1:=by
  intro l m q
  induction q with
  |nil=>intro x b;exact nomatch b
  | @cons p q ps qs hq t ih =>
   intro x b;rcases Qad.mp b with e|b
   .subst e;exact Z1i ok (by rw[<- hq.1];exact hq.2.1)
   .exact ih x b
 exact all r x b
def Zbt{kvs:Ab (Ab Key×V)}(ok:HOk P w H h)(e:H a=some (.dT kvs)):kvs.length<=sizeLine/\(a==sysModules)=false /\
  ∃xs,KT H kvs xs/\h.DictOfH (tupleKind (dI P w)) a xs:=Z6H ok (.inl e)
end
def DGet(H:Hp)(a:Af)(y:V)(r:Aa V):Prop :=
 (∃kvs k,Rd H a (.dK kvs)/\y=kV k/\r=rF kvs k)\/∃kvs k b,Rd H a (.dT kvs)/\y=.ref b/\H b=some (.tup (k.map kV))/\r=rF kvs k
def DPut(H:Hp)(a:Af)(y v:V)(H':Hp):Prop :=
 (∃kvs k,H a=some (.dK kvs)/\y=kV k/\kvs.length<sizeLine/\H'=upd H a (.dK (tJ kvs k v))) \/
 ∃kvs k b,H a=some (.dT kvs)/\y=.ref b/\H b=some (.tup (k.map kV))/\kvs.length<sizeLine/\H'=upd H a (.dT (tJ kvs k v))
theorem DGet.k{H:Hp}{a:Af}{kvs:Ab (Key×V)}{k:Key}(e:H a=some (.dK kvs)):DGet H a (kV k) (rF kvs k):=.inl ⟨kvs,k,.inl e,rfl,rfl⟩
theorem DPut.k{H:Hp}{a:Af}{kvs:Ab (Key×V)}{k:Key}{v:V}(e:H a=some (.dK kvs))(b:kvs.length<sizeLine):DPut H a (kV k) v (upd H a (.dK (tJ kvs k v))):=.inl ⟨kvs,k,e,rfl,b,rfl⟩
section
variable {X:Cx}{pins:Ab (Af×Obj)}{σ:St}{H:Hp}{s:Ac}{a:Af}{y v:V}{u r:Ad}{o:Aa V}{A:Ai}{E:Ad->Ac->Prop}
def Inv.big(I:Inv X pins σ H s):sysModules<s.heap.objs.size:=by
 have h:mainGlobals<s.heap.objs.size:=(I.mod.glob.keeps I.bk).lt;exact Nat.lt_trans (by decide) h
def Zcf{Q:Ad->Ac->Prop}(r:A.units+1<cLine)(I:Inv X pins σ H s)(g:DGet H a y o)(n:RelV y u)(h:∀s',Inv X pins σ H s'->Q (.bool o.isSome) s') :
  wpAny (model X.prog X.w) A (compareOp .In u (.ref a)) Q E s:=by
 rcases g with⟨kvs,k,e,i,l⟩|⟨kvs,k,b,e,i,p,l⟩
 .subst i;obtain⟨z,hd,vs,f,j⟩:=Z9e I.hok e;refine wpAny_in_of (Z6d n) hd j.mapOf ?_;rw[<- (f.val k).isSome_eq,<- l];exact h _ (I.tok _)
 .subst i;cases (show u=Value.ref b from n)
  obtain⟨z,hd,xs,f,j⟩:=Z6H I.hok e;refine wpAny_in_heap (tupleKind_room_in1 r) (Z1i I.hok p) hd j ?_;have q:=(f.val k).isSome_eq;rw[Option.isSome_map]at q;rw[<- q,<- l];exact h _ (I.tok _)
def Z2P{h':Ah}{t':Nat}{f:HO}(I:Inv X pins σ H s)(i:Mut (H a))(hs:Heap.SameBut a s.heap h')(he:∃q,h'.get? a=some q)(h:ObjOk X.prog X.w (upd H a f) h' a f) :
  Inv X pins σ (upd H a f) { s with heap:=h',toks:=t' } :=
 I.write (x:=a) (e:=a) i (.inl rfl) (λb q hb z=>(hs.2 b hb).trans z) he h
def Zaq{P:Aj}{w:Ak}{H':Hp}{h':Ah}{kvs:Ab (Key×V)}{vs:Ab (Key×Ad)}(z:kvs.length<=sizeLine)(hd:(a==sysModules)=false)(b:KV kvs vs)(e:h'.DictOf (dI P w) a vs) :
  ObjOk P w H' h' a (.dK kvs):=⟨z,hd,vs,b,e⟩
def Z4b{H':Hp}{Q:Unit->Ac->Prop}(F:A.units+1<cLine)(I:Inv X pins σ H s)(g:DPut H a y v H')(t:RelV y u)(B:RelV v r)(h:∀s',Inv X pins σ H' s'->Q () s') :
  wpAny (model X.prog X.w) A (setItem (.ref a) u r) Q E s:=by
 rcases g with⟨kvs,k,e,i,l,p⟩|⟨kvs,k,b,e,i,x,l,p⟩
 .subst i p;obtain⟨z,hd,vs,f,o⟩:=Z9f I.hok e;have j:vs.length<=sizeLine:=by rw[<- f.length];exact z
  have n:(tJ kvs k v).length<=sizeLine:=by have:=vB kvs k v;omega
  refine wpAny_setItem_pairs (hsz:=j) (Z6d t) o λh' dd' hs=>h _ ?_;have he:∃q,h'.get? a=some q:=let ⟨q,_,_,hq,_⟩:=dd';⟨q,hq⟩;exact Z2P I (by rw[e];exact True.intro) hs he (Zaq n hd (f.put k B) dd')
 .subst i p;cases (show u=Value.ref b from t)
  obtain⟨z,hd,xs,f,o⟩:=Zbt I.hok e;have j:xs.length<=sizeLine:=by rw[<- Paired.length f];exact z
  have n:(tJ kvs k v).length<=sizeLine:=by have:=vB kvs k v;omega
  refine wpAny_setItem_heap (hsz:=j) (tupleKind_room_in1 F) (Z1i I.hok x) o λh' dd' hs=>h _ ?_;obtain⟨q,es,ep,hq,J,K,C,_,G⟩:=dd';refine Z2P I (by rw[e];exact True.intro) hs ⟨q,hq⟩ ⟨n,hd,_,(f.put k x B).keeps λc ys ec=>?_,q,es,ep,hq,J,K,C,G⟩;rw[aY (Zba ec e (λz=>nomatch z))];exact ec
end
def ZbS(ty td:TE):TE:=λσ H Q=>ty σ H λy H1=>td σ H1 λx H2=>∃a o,x=.ref a/\DGet H2 a y o/\Q (.bl o.isSome) H2
def ZaR(td ty tv:TE):TS:=λD σ H=>tv σ H λv H1=>td σ H1 λx H2=>ty σ H2 λy H3=>∃a H4,x=.ref a/\DPut H3 a y v H4/\D.nx σ H4
section
variable {X:Cx}{o i value:Ag}{pos pos':Pos}{td ty tv:TE}
def Za4(b:X.A.units+1<cLine)(hi:PE X i ty)(e:PE X o td):PC X .In i o (ZbS ty td):=by
 intro pins s σ H Q I h;refine thn (hi pins s σ H _ I h) λiv s1 ⟨y,H1,I1,ry,q1⟩=>thn (e pins s1 σ H1 _ I1 q1) λu s2 ⟨x,H2,I2,rx,a,ov,ex,g,q2⟩=>?_;subst ex;obtain rfl:u=Value.ref a:=rx;exact Zcf b I2 g ry λs3 I3=>⟨.bl ov.isSome,H2,I3,rfl,q2⟩
def Z81(b:X.A.units+1<cLine)(e:PE X o td)(hi:PE X i ty)(f:PE X value tv)(hs:swapsWith value (some (.Subscript o i pos')) pos.line X.env=pure false) :
  PS X (.Assign [.Subscript o i pos'] value pos) (ZaR td ty tv):=by
 intro pins s σ H D I h;refine wpAny_Assign_Subscript (thn (f pins s σ H _ I h) λr s1 ⟨v,H1,I1,rv,q1⟩=>thn (e pins s1 σ H1 _ I1 q1) λu s2 ⟨x,H2,I2,rx,q2⟩=>thn (hi pins s2 σ H2 _ I2 q2) λiv s3 ⟨y,H3,I3,ry,a,H4,ex,g,q3⟩=>?_) hs;subst ex;obtain rfl:u=Value.ref a:=rx;exact Z4b b I3 g ry rv λs4 I4=>⟨σ,H4,I4,q3⟩
end
def Z6I{P:Aj}{w:Ak}{H:Hp}(h:Ah)(a:sysModules<h.objs.size):ObjOk P w H (h.push { cls:=.type "dict",data:=.dict #[] }) h.objs.size (.dK []) :=
 ⟨Qa2 _,beq_eq_false_iff_ne.mpr (Ne.symm (QaM a)),[],.nil,Heap.DictOf.new h⟩
def Z9t:TE:=λ_ H Q=>∀p,H p=none->Q (.ref p) (upd H p (.dK []))
section
variable {X:Cx}{pos:Pos}
def pe_dnewK:PE X (.Dict [] [] pos) Z9t:=λpins s σ H Q I h =>
 wpAny_Dict_empty ⟨.ref s.heap.objs.size,_,I.laid (a:=s.heap.objs.size) (o:=.dK []) (t':=s.toks) (λ_ _ q=>Qac _ q) (Qan _) (Z6I s.heap I.big),rfl,h _ (I.hok.fresh (Qan _))⟩
end
structure M1(X:Cx)(o:Expr)(m:Str)(apos:Pos)(e:Expr)(cpos:Pos):Prop where
 base:attributeBase o m X.env (eval o X.env)=eval o X.env
 few:((backTo cpos (starEach [e] X.env)).all (λx=>!x.1)&&(backToKw cpos (keywordEach [] X.env)).all (λx=>x.1.isSome)
  && decide (([e]:Ab Ag).length+([]:Ab Keyword).length+(if ([]:Ab Keyword).isEmpty then 0 else 1)<30))=true
 line:(apos.endLine==cpos.line)=true
 trees:backTo cpos (starEach [e] X.env)=[(false,eval e X.env)]
structure M2(X:Cx)(o:Expr)(m:Str)(apos:Pos)(e f:Expr)(cpos:Pos):Prop where
 base:attributeBase o m X.env (eval o X.env)=eval o X.env
 few:((backTo cpos (starEach [e,f] X.env)).all (λx=>!x.1)&&(backToKw cpos (keywordEach [] X.env)).all (λx=>x.1.isSome)
  && decide (([e,f]:Ab Ag).length+([]:Ab Keyword).length+(if ([]:Ab Keyword).isEmpty then 0 else 1)<30))=true
 line:(apos.endLine==cpos.line)=true
 trees:backTo cpos (starEach [e,f] X.env)=[(false,eval e X.env),(false,eval f X.env)]
def Q4(I:Nat->Ac->Prop)
  (f:∀ n s,I n s->wpAny (model prog w) A (pyNext it) (fun r s₁=>match r with
   |none=>R (.ok .next) s₁
   | some v=>wpAny (model prog w) A (letOwnedTupleGo target it v) (fun _ s₀=>wpAny (model prog w) A (assign target env v) (fun _ s₂ =>
     wpAny (model prog w) A (forIn ifs true λc r=>if r=true then do let ok <- isTrue c env (eval c env);pure (ForInStep.yield ok) else pure (ForInStep.yield r)) (λok a =>
      if ok=true then wpAny (model prog w) A (eval elt env) (λx b =>
       wpAny (model prog w) A (call (.builtin "list.append") [acc,x]) (λ_ s₅=>∃m,m<n/\I m s₅) (notedBy (model prog w) A env λe s'=>R (.error e) s') b) (notedBy (model prog w) A env λe s'=>R (.error e) s') a
      else ∃m,m<n/\I m a) (notedBy (model prog w) A env λe s'=>R (.error e) s') s₂) (notedBy (model prog w) A env λe s'=>R (.error e) s') s₀)
     (notedBy (model prog w) A env λe s'=>R (.error e) s') s₁) (notedBy (model prog w) A env λe s'=>R (.error e) s') s)
  (n:Nat) (h:I n s) :
  codeAny (model prog w) A (.compLoop (.ListComp elt [⟨target,iter,ifs,0⟩] scope pos) 0 it acc env) R s:=by
 refine codeAny_loop rfl I (λn s hI=>?_) n h;show wpAny _ A ((compTurn (.ListComp elt [⟨target,iter,ifs,0⟩] scope pos) 0 it acc env).onRaise (λx=>do noteFrame x env;theTreesLotGoes x)) _ _ s
 refine wpAny_noted ?_;rw[compTurn_list];refine Ra (wpAny_standAt (Ra (Rc (f n s hI) (λr s₁ h₁=>?_) λ_ _ h'=>h')));cases r with
 |none=>exact Rb h₁
 |some v =>
  refine Ra (Rc h₁ (λ_ s₀ h₀=>?_) λ_ _ h'=>h');refine Ra (Rc h₀ (λ_ s₂ h₂=>Ra (Rc h₂ (λok a h₃=>?_) λ_ _ h'=>h')) λ_ _ h'=>h');cases ok with
  |false=>exact Rb ⟨rfl,h₃⟩
  |true =>
   exact Ra (Ra (Rc h₃ (λx b h₄=>Ra (Rc h₄ (λ_ s₅ h₅=>Rb (Rb ⟨rfl,h₅⟩)) λ_ _ h'=>h')) λ_ _ h'=>h'))
theorem qY:∀(names:Ab (Str×NameKind)) (acc:Ab (Str×Af)),(∀n,(n,NameKind.free)∈names->∃c,env.cells.lookup n=some c) ->
  (∀n c,acc.lookup n=some c->env.cells.lookup n=some c) ->
  ∃cl,(forIn names acc λ(x:Str×NameKind) cs=>(if (x.2==NameKind.free)=true then(cellOf env x.1 >>= λa=>pure (ForInStep.yield ((x.1,a)::cs))) else pure (ForInStep.yield cs):Sem (ForInStep (Ab (Str×Af)))))=pure cl /\
   (∀n c,cl.lookup n=some c->env.cells.lookup n=some c)/\(∀n,(n,NameKind.free)∈names->∃c,cl.lookup n=some c)/\(∀n c,acc.lookup n=some c->∃c',cl.lookup n=some c')
 |[],acc,_,h2=>⟨acc,rfl,h2,λn h=>(nomatch h),λn c h=>⟨c,h⟩⟩
 |(n,k)::r,acc,h1,h2=>by
  by_cases l:k=.free
  .subst l;obtain⟨c,hc⟩:=h1 n Qah;have o:∀m c',((n,c)::acc).lookup m=some c'->env.cells.lookup m=some c':=by
    intro m c' e;rw[QaL]at e;cases q:m==n with
    |true =>
     rw[q]at e;have:=eq_of_beq q;subst this;cases e;exact hc
    |false =>
     rw[q]at e;exact h2 m c' e
   obtain⟨cl,e,i,j,f⟩:=qY r ((n,c)::acc) (λm b=>h1 m (Qab _ b)) o;refine⟨cl,?_,i,?_,?_⟩
   .rw[Qbc];have p:cellOf env n=pure c:=by unfold cellOf;rw[hc]
    show((if (NameKind.free==NameKind.free)=true then _ else _) >>= _)=_;rw[if_pos (by rfl),p];exact e
   .intro m b;rcases Qad.mp b with z|z
    .cases z;exact f n c (by simp[QaL])
    .exact j m z
   .intro m c' b;cases q:m==n with
    |true=>exact f m c (by rw[QaL,q])
    |false=>exact f m c' (by rw[QaL,q];exact b)
  .obtain⟨cl,e,i,j,f⟩:=qY r acc (λm b=>h1 m (Qab _ b)) h2;refine⟨cl,?_,i,?_,f⟩
   .rw[Qbc];have:(k==NameKind.free)=false:=by simpa using l
    show((if (k==NameKind.free)=true then _ else _) >>= _)=_;rw[this,if_neg (by decide)];exact e
   .intro m b;rcases Qad.mp b with z|z
    .cases z;exact absurd rfl l
    .exact j m z
def zH(h:∀n,(n,NameKind.free)∈scope.names->∃c,env.cells.lookup n=some c) :
  ∃cl,closureFor scope env=pure cl/\(∀n c,cl.lookup n=some c->env.cells.lookup n=some c)/\(∀n,(n,NameKind.free)∈scope.names->∃c,cl.lookup n=some c):=by
 obtain⟨cl,e,a,b,_⟩:=qY (env:=env) scope.names [] h (λn c q=>(nomatch q));refine⟨cl,?_,a,b⟩;unfold closureFor
 first
  |(rw[show(forIn scope.names ([]:Ab (Str×Af)) _:Sem (Ab (Str×Af)))=pure cl from e];rfl)
  |(simp only[bind_pure];exact e)
  |exact e
def eM(X:Cx)(N':Ab Str)(scope:Scope)(cl:Ab (Str×Af))(C:Af)(s₀:Ac)(H₀:Hp)(ex:Ab Af)(pins:Ab (Af×Obj)):Cx :=
 { X with N:=N',s₀:=s₀,H₀:=H₀,env:=compEnvC scope cl C X.env,outer:=X.stack,stack:=X.stack,ex:=ex,fn:=λ_=>false,pn:=X.pn++pins,xe:=λ_ _=>False }
def gL(osc:Scope)(N:Ab Str)(scope:Scope)(fr:Ab Nat):Bool :=
 scope.kind == .function&&scope.names.all (λy=>y.2 != .cell)&&scope.names.all (λy=>y.2 != .free||(osc.names.lookup y.1==some .cell||osc.names.lookup y.1==some .free)) &&
 fr.all (λj=>match N[j]? with|some x=>scope.names.lookup x==some .free|none=>false)&&scope.names.all (λy=>y.2 != .local||scope.names.lookup y.1==some .local)
theorem jQ{env:Env}:∀{names:Ab (Str×NameKind)}{x:Str},names.lookup x=some .free ->
  (names.map λ(n,k)=>if (k==NameKind.free&&env.scope.kind == .function&&env.kindOf n==some .cell) then(n,NameKind.cell) else(n,k)).lookup x=some .cell \/
  (names.map λ(n,k)=>if (k==NameKind.free&&env.scope.kind == .function&&env.kindOf n==some .cell) then(n,NameKind.cell) else(n,k)).lookup x=some .free
 |[],_,h=>by simp at h
 |(n,k)::r,x,h=>by
  have b:=@jQ env r x;show List.lookup x ((if (k==NameKind.free&&env.scope.kind == .function&&env.kindOf n==some .cell)=true then(n,NameKind.cell) else(n,k))::_)=_\/List.lookup x ((if (k==NameKind.free&&env.scope.kind == .function&&env.kindOf n==some .cell)=true then(n,NameKind.cell) else(n,k))::_)=_;cases a:x==n with
  |true =>
   simp only[QaL,a]at h;cases h;by_cases hc:(NameKind.free==NameKind.free&&env.scope.kind == .function&&env.kindOf n==some .cell)=true
   .rw[if_pos hc];left;simp only[QaL,a]
   .rw[if_neg hc];right;simp only[QaL,a]
  |false =>
   simp only[QaL,a]at h;by_cases hc:(k==NameKind.free&&env.scope.kind == .function&&env.kindOf n==some .cell)=true
   .rw[if_pos hc];simp only[QaL,a];exact b h
   .rw[if_neg hc];simp only[QaL,a];exact b h
def uW{env:Env}{names:Ab (Str×NameKind)}(hc:∀y∈names,y.2 ≠ .cell){x:Str}{b:NameKind}(f:b=.cell\/b=.free)
  (h:(names.map λ(n,k)=>if (k==NameKind.free&&env.scope.kind == .function&&env.kindOf n==some .cell) then(n,NameKind.cell) else(n,k)).lookup x=some b):(x,NameKind.free)∈names:=by
 have h1:=PySem.mem_of_lookup h;obtain⟨⟨n,k⟩,a,e⟩:=QaG.mp h1;by_cases q:(k==NameKind.free&&env.scope.kind == .function&&env.kindOf n==some .cell)=true
 .simp only[q]at e;simp at e;obtain⟨rfl,_⟩:=e;simp at q;obtain⟨⟨rfl,_⟩,_⟩:=q;exact a
 .simp only[q]at e;simp at e;obtain⟨rfl,rfl⟩:=e;rcases f with z|z
  .exact absurd z (hc _ a)
  .subst z;exact a
def jS(k:Nat)(fr:Ab Nat)(σ:St):St:=List.replicate k none++fr.map λj=>(σ[j]?).join
def eG(tgs:Ab Str)(fr:Ab Nat)(N:Ab Str):Ab Str:=tgs++fr.map λj=>(N[j]?).getD Str.empty
def Z6i{scope:Scope}{tgs:Ab Str}{fr:Ab Nat}{cl:Ab (Str×Af)}{h':Ah}{tk:Nat}{ex:Ab Af}(I:Inv X pins σ H s)
  (L:gL X.env.scope X.N scope fr=true)
  (l:∀n c,cl.lookup n=some c->X.env.cells.lookup n=some c) (t:∀n,(n,NameKind.free)∈scope.names->∃c,cl.lookup n=some c)
  (U:h'.Ns s.heap.objs.size (λ_=>none)) (h:∀b o,s.heap.get? b=some o->h'.get? b=some o)
  (A:∀b∈ex,C1 X pins H b/\b<s.heap.objs.size) :
  Inv (eM X (eG tgs fr X.N) scope cl s.heap.objs.size s H ex pins) [] (jS tgs.length fr σ) H { s with heap:=h',toks:=tk }:=by
 simp only[gL,QaE,Qa9]at L;obtain⟨⟨⟨⟨c1,c2⟩,c3⟩,c4⟩,c5⟩:=L;have J:scope.kind=.function:=by simpa using c1
 have B:∀y∈scope.names,y.2 ≠ .cell:=λy hy=>by simpa using c2 y hy
 have lt:∀b o,s.heap.get? b=some o->b<s.heap.objs.size:=λb o e=>Qal e;have nofr:∀b∈frs X.stack,b∈X.env.locals::X.fs:=I.stkSub;refine⟨⟨I.ok.mod,J,I.ok.glob,I.ok.blt,Qan _,λx y c a b=>I.ok.inj x y c (l _ _ a) (l _ _ b),λx S=>?_,λx c E _=>?_,I.ok.hd,I.ok.frames,.inl rfl,λb hb=>⟨?_,λx c e=>(A b hb).1.2.2.2.2.1 x c (l _ _ e)⟩,
   I.bs,QaC I.ok.bsz I.sz,λb o e hb=>?_,λb hb E=>?_,I.stack,I.stkFree⟩,
  rfl,I.bare,Un.kept h,⟨λ_=>none,U,λi x v h1 f Z=>?_⟩,λx c e=>?_,I.fresh,λx c e=>I.freeC x c (l _ _ e),λp hp=>?_,I.hok.kept h,?_⟩
 .-- has
  have S:(relabel scope X.env).names.lookup x=some .cell\/(relabel scope X.env).names.lookup x=some .free:=S;rcases S with z|z
  .exact t x (uW B (.inl rfl) z)
  .exact t x (uW B (.inr rfl) z)
 .cases E
 .show b≠s.heap.objs.size;exact QaM (A b hb).2
 .-- noex
  obtain⟨⟨_,_,_,h4,_⟩,_⟩:=A b hb;rcases h4 with z|z
  .exact I.ok.noex b o e z
  .exact absurd (Qal (I.ok.bs b o e).1) (Nat.not_lt.mpr z)
 .-- exfs
  obtain⟨⟨_,f,Z,_⟩,_⟩:=A b hb;rcases Qad.mp (nofr b E)with z|z
  .exact f z
  .exact Z z
 .-- loc
  have h1:(eG tgs fr X.N)[i]?=some x:=h1;by_cases hi:i<tgs.length
  .unfold jS at f;rw[QaH (by simpa using hi),Qbi,if_pos hi]at f;cases f
  .unfold jS at f;rw[QaW (by simpa using hi),List.length_replicate,QaA]at f;unfold eG at h1;rw[QaW (by simpa using hi),QaA]at h1;cases R:fr[i-tgs.length]? with
   |none=>rw[R]at f;cases f
   |some j =>
    rw[R]at h1 f;have F:=c4 j (QaK R);cases G:X.N[j]? with
    |none=>rw[G]at F;cases F
    |some y =>
     rw[G]at F;simp only[Qav,G,Option.getD_some]at h1;cases h1;have O:scope.names.lookup x=some .free:=by simpa using F
     have Y:σ[j]?=some (some v):=by
      simp only[Qav]at f;cases M:σ[j]? with
      |none=>rw[M]at f;cases f
      |some o=>rw[M]at f;simp only[QaN]at f;injection f with f;rw[f]
     have K:X.env.scope.names.lookup x=some .cell\/X.env.scope.names.lookup x=some .free:=by
      have:=c3 _ (PySem.mem_of_lookup O);simpa using this
     obtain⟨m,_,P⟩:=I.loc;obtain⟨u,r,q⟩:=P j x v G Y (K.elim (λz=>.inr (.inl z)) λz=>.inr (.inr z));refine⟨u,r,.inr ?_⟩;obtain⟨c,hc⟩:=t x (PySem.mem_of_lookup O);have W:=jQ (env:=X.env) O;refine⟨W,c,hc,?_⟩;rcases q with⟨k,_⟩|⟨_,c',e',z⟩
     .have k':X.env.scope.names.lookup x=some .local:=k;rcases K with w|w<;>(rw[k']at w;cases w)
     .have:c'=c:=by have:=l x c hc;rw[e']at this;exact QaI this
      subst this;obtain⟨Q,C,hd⟩:=z;exact⟨Q,h _ _ C,hd⟩
 .obtain⟨v,Q,C,hd⟩:=I.cell x c (l _ _ e);exact⟨v,Q,h _ _ C,hd⟩
 .have T:p∈X.pn++pins:=by
   have:p∈(X.pn++pins)++[]:=hp;simpa using this
  obtain⟨a1,a2,a3,a4,a5⟩:=I.pin p T;refine⟨h _ _ a1,a2,?_,λE=>?_,a5⟩
  .show p.1≠s.heap.objs.size;exact QaM (lt _ _ a1)
  .rcases Qad.mp (nofr _ E)with z|z
   .exact a3 z
   .exact a4 z
 .show(jS tgs.length fr σ).length=(eG tgs fr X.N).length;simp[jS,eG]
def PTs(X:Cx)(ifs:Ab Ag)(t:TT):Prop :=
 ∀(pins:Ab (Af×Obj)) (s:Ac) (σ:St) (H:Hp) (Q:Bool->Hp->Prop),Inv X pins σ H s->t σ H Q ->
  wpAny (model X.prog X.w) X.A (forIn ifs true λc r=>if r=true then do let ok <- isTrue c X.env (eval c X.env);pure (ForInStep.yield ok) else pure (ForInStep.yield r)) (TP X pins σ Q) X.xe s
def ZaC:TT:=λ_ H Q=>Q true H
def Z80:PTs X [] ZaC:=λpins s σ H Q I h=>wpAny_tests_nil ⟨H,I,h⟩
def Z7Z(h:PT X c t):PTs X [c] t:=λpins s σ H Q I q=>wpAny_tests_one (h pins s σ H Q I q)
def Z9j(J:It)(k:Nat)(fr:Ab Nat)(g:TG)(tt:TT)(te:TE)(σ:St)(H1:Hp)(Q:VK):Prop :=
 ∀acc,H1 acc=none->∃W:Nat->Nat->Ab V->Hp->Prop,(∃m,W 0 m [] (upd H1 acc (.lst [])))/\∀i m ys H,W i m ys H->H acc=some (.lst ys) /\
  ((J.stop i H /\ Q (.ref acc) H) \/ (J.go i H /\ ∀ x H', J.yld i H x H' -> g x (jS k fr σ) H' fun σ2 H2 => (σ2.drop k = (jS k fr σ).drop k /\ σ2.length = (jS k fr σ).length) /\ tt σ2 H2 fun b H3 => if b = true then te σ2 H3 fun y H4 => ∃ ys', H4 acc = some (.lst ys') /\ ys'.length < sizeLine /\
   ∃m',m'<m/\W (i+1) m' (ys'++[y]) (upd H4 acc (.lst (ys'++[y]))) else ∃m' ys',m'<m/\W (i+1) m' ys' H3))
def Z1W(wi:TI)(k:Nat)(fr:Ab Nat)(g:TG)(tt:TT)(te:TE):TE:=λσ H Q=>wi σ H λJ H1=>Z9j J k fr g tt te σ H1 Q
def Z0j{cl:Ab (Str×Af)}{R:VK}{E:Ad->Ac->Prop}{RR:Ad->Af->Result->Ac->Prop}(I2:Inv X pins σ H s)(T:R6 X.prog X.w X.K tg J fp it tn)(a1:tn 0 s.heap)(f2:∀b∈fp,C1 X pins H b)(hc:X.calm=true)
  (chk:gL X.env.scope X.N scope fr=true)
  (Z:∀n c,cl.lookup n=some c->X.env.cells.lookup n=some c) (hcl2:∀n,(n,NameKind.free)∈scope.names->∃c,cl.lookup n=some c)
  (hg:∀cl C s0 H0 ex pins,PG (eM X (eG tgs fr X.N) scope cl C s0 H0 ex pins) tg g)
  (ht:∀cl C s0 H0 ex pins,PTs (eM X (eG tgs fr X.N) scope cl C s0 H0 ex pins) ifs tt)
  (he:∀cl C s0 H0 ex pins,PE (eM X (eG tgs fr X.N) scope cl C s0 H0 ex pins) elt te)
  (rd:Z9j J tgs.length fr g tt te σ H R)
  (fin:∀D C s' Hend m,Inv X pins σ Hend s'->s'.heap.Ns C m->Hend C=none->C≠X.env.locals->X.s₀.heap.objs.size<=C->(∀x c,X.env.cells.lookup x=some c->c≠C)->(∀p∈X.pn++pins,p.1≠C)->R (.ref D) Hend->RR (.ref D) C (.ok .next) s') :
  wpAny (model X.prog X.w) X.A (newList []) (λacc s₃=>wpAny (model X.prog X.w) X.A (newFunctionEnv scope X.env.globals cl [] X.env.qual none .none (some X.env)) (λa3 s₄ =>
   codeAny (model X.prog X.w) X.A (.compStart (.ListComp elt [⟨tg,iter,ifs,0⟩] scope pos) 0 (.ref it) acc { a3 with scope:=relabel scope X.env }) (RR acc a3.locals) s₄) E s₃) E s:=by
 have a6:=chk;simp only[gL,QaE,Qa9]at a6;obtain⟨⟨⟨⟨c1,c2⟩,c3⟩,c4⟩,c5⟩:=a6;have a7:scope.kind=.function:=by simpa using c1
 have a8:∀y∈scope.names,y.2 ≠ .cell:=λy hy=>by simpa using c2 y hy
 refine Re (wpAny_newFunctionEnv a8 (by intro y hy;simp at hy) (λh₁ hns₁ hsb₁=>?_) a7);have B:Inv X pins σ (upd H s.heap.objs.size (.lst [])) { s with heap:=s.heap.push { cls:=.type "list",data:=.seq ([]:Ab Ad).toArray } }:=I2.lnew (t':=s.toks) (its:=[]) .nil (Qa2 _);generalize hs3:({ s with heap:=s.heap.push { cls:=.type "list",data:=.seq ([]:Ab Ad).toArray } }:Ac)=s3 at B hns₁ hsb₁ ⊢;have Q:s3.heap=s.heap.push { cls:=.type "list",data:=.seq ([]:Ab Ad).toArray }:=by rw[<- hs3]
 have M:∀b o,s.heap.get? b=some o->s3.heap.get? b=some o:=λb o e=>by rw[Q];exact Qac _ e
 have P:s3.heap.objs.size=s.heap.objs.size+1:=by rw[Q,Qbu]
 have a2:∀b∈fp,b<s.heap.objs.size:=λb f=>by
  obtain⟨o,e,_⟩:=T.obj 0 _ a1 b f;exact Qal e
 have upn:∀{b:Af},b<s.heap.objs.size->upd H s.heap.objs.size (.lst []) b=H b:=λf=>aY (QaM f);have G:∀b∈fp,C1 X pins (upd H s.heap.objs.size (.lst [])) b:=λb f=>⟨by rw[upn (a2 b f)];exact(f2 b f).1,(f2 b f).2⟩;have t:∀b o,s3.heap.get? b=some o->h₁.get? b=some o:=λb o e=>hsb₁.extBut b o (QaM (Qal e)) (Qac _ e);have I4:=Z6i (tgs:=tgs) (h':=h₁) (tk:=s3.toks+([]:Ab (Str×Ad)).length) (ex:=fp) B chk Z hcl2 (by simpa using hns₁) t (λb f=>⟨G b f,by rw[P];exact Nat.lt_succ_of_lt (a2 b f)⟩);obtain⟨W,⟨m0,w0⟩,F⟩:=rd s.heap.objs.size I2.fresh;generalize hX':eM X (eG tgs fr X.N) scope cl s3.heap.objs.size s3 (upd H s.heap.objs.size (.lst [])) fp pins=X' at I4;have Y:X'.A=X.A:=by rw[<- hX'];rfl
 have S:X'.prog=X.prog:=by rw[<- hX'];rfl
 have U:X'.w=X.w:=by rw[<- hX'];rfl
 have eK:X'.K=X.K:=by rw[<- hX'];rfl
 have eC:X'.calm=true:=by rw[<- hX'];exact hc
 have eX:X'.xe=λ_ _=>False:=by rw[<- hX'];rfl
 have L:X'.env=compEnvC scope cl s3.heap.objs.size X.env:=by rw[<- hX'];rfl
 have hg':PG X' tg g:=by rw[<- hX'];exact hg _ _ _ _ _ _
 have ht':PTs X' ifs tt:=by rw[<- hX'];exact ht _ _ _ _ _ _
 have he':PE X' elt te:=by rw[<- hX'];exact he _ _ _ _ _ _
 have a0:∀{H':Hp},(∀b∈fp,H' b=none)->∀b∈fp,C1 X' [] H' b:=λ{H'} hn b f=>by
  rw[<- hX'];obtain⟨_,z2,z3,z4,z5,z6⟩:=G b f;refine⟨hn b f,?_,λhf=>?_,.inl f,λx c e=>z5 x c (Z _ _ e),λp hp=>z6 p (by have:p∈(X.pn++pins)++[]:=hp;simpa using this)⟩
  .show b≠s3.heap.objs.size;rw[P];exact QaM (Nat.lt_succ_of_lt (a2 b f))
  .rcases Qad.mp (B.stkSub b hf)with z|z
   .exact z2 z
   .exact z3 z
 have a4:codeAny (model X.prog X.w) X.A (.compLoop (.ListComp elt [⟨tg,iter,ifs,0⟩] scope pos) 0 (.ref it) (.ref s.heap.objs.size) (compEnvC scope cl s3.heap.objs.size X.env))
   (RR (.ref s.heap.objs.size) s3.heap.objs.size) { s3 with heap:=h₁,toks:=s3.toks+([]:Ab (Str×Ad)).length }:=by
  refine Q4 (λn s'=>∃i ys H',Inv X' [] (jS tgs.length fr σ) H' s'/\tn i s'.heap/\(∀b∈fp,H' b=none)/\W i n ys H') ?_ m0
   ⟨0,[],upd H s.heap.objs.size (.lst []),I4,T.keep _ _ _ a1 λb f o e=>t _ _ (M _ _ e),λb f=>(G b f).1,w0⟩
  rintro n s5 ⟨i,ys,H5,I5,st5,fr5,w5⟩;obtain⟨hacc,F⟩:=F i n ys H5 w5;rcases F with⟨stop,q⟩|⟨go,step⟩
  .have d:=T.done X' S U eK eC i [] s5 (jS tgs.length fr σ) H5 (λ_ _=>False) I5 (a0 fr5) st5 stop;rw[Y]at d;refine Rc d (λr s6 ⟨hr,I6⟩=>?_) λ_ _ z=>z.elim;subst hr;have h:=I6;rw[<- hX']at h;have un6:Un (frs X.stack) fp (upd H s.heap.objs.size (.lst [])) H5 s3.heap s6.heap:=h.base;have I7:Inv X pins σ H5 s6:=B.call' h.os un6 (by have:=h.hok;exact this) h.bare λb f=>⟨(G b f).2.2.2.1,(G b f).2.1,(G b f).2.2.2.2.1,(G b f).2.2.2.2.2⟩;obtain⟨m,I,_⟩:=h.loc;refine fin _ _ s6 H5 m I7 I h.free ?_ ?_ ?_ ?_ q
   .exact λz=>by have:=B.lt;rw[<- z]at this;exact Qbg _ this
   .exact B.sz
   .intro x c e z;obtain⟨v,oc,hoc,_⟩:=B.cell x c e;have:=Qal hoc;rw[z]at this;exact Qbg _ this
   .intro p hp z;have:=Qal (B.pin p hp).1;rw[z]at this;exact Qbg _ this
  .have d:=T.item X' S U eK eC i [] s5 (jS tgs.length fr σ) H5 (λ_ _=>False) I5 (a0 fr5) st5 go;rw[Y]at d;refine Rc d (λr s6 ⟨u,hr,h6⟩=>?_) λ_ _ z=>z.elim;subst hr;refine Rc h6 (λ_ s7 ⟨x,H7,I7,r7,y7,st7,fr7⟩=>?_) λ_ _ z=>z.elim;have I7':=I7.pinned (a0 fr7) (T.obj _ _ st7);have a:=hg' _ s7 _ H7 x u _ I7' r7 (step x H7 y7);rw[L,Y,S,U,eX]at a;refine Rc a (λ_ s8 ⟨σ8,H8,I8,⟨kp,kl⟩,q8⟩=>?_) λ_ _ z=>z.elim;have b:=ht' _ s8 σ8 H8 _ I8 q8;rw[L,Y,S,U,eX]at b;refine Rc b (λok s9 ⟨H9,I9,q9⟩=>?_) λ_ _ z=>z.elim;have O:∀{l:Ac}{H10:Hp}{ys10:Ab V}{m':Nat},Inv X' ([]++yD fp s7.heap) σ8 H10 l->m'<n->W (i+1) m' ys10 H10 ->
     ∃m,m<n/\∃i ys H',Inv X' [] (jS tgs.length fr σ) H' l/\tn i l.heap/\(∀b∈fp,H' b=none)/\W i m ys H':=λ{l H10 ys10 m'} I10 I w10=>by
    refine⟨m',I,i+1,ys10,H10,I10.unpinned.weak kl.symm (λj v e=>?_),T.keep _ _ _ st7 λb f o e=>(I10.pin (b,o) (Qag _ (Qag _ (mY f e)))).1,λb f=>?_,w10⟩
    .by_cases hj:j<tgs.length
     .unfold jS at e;rw[QaH (by simpa using hj),Qbi,if_pos hj]at e;cases e
     .have e1:(σ8.drop tgs.length)[j-tgs.length]?=some (some v):=by
       rw[kp,List.getElem?_drop];rw[show tgs.length+(j-tgs.length)=j by omega];exact e
      rw[List.getElem?_drop,show tgs.length+(j-tgs.length)=j by omega]at e1;exact e1
    .obtain⟨o,e,d⟩:=T.obj _ _ st7 b f;exact(I10.pin (b,o) (Qag _ (Qag _ (mY f e)))).2.1
   cases ok with
   |false =>
    rw[if_neg (by decide)]at q9 ⊢;obtain⟨m',a5,I,w9⟩:=q9;exact O I9 I w9
   |true =>
    rw[if_pos rfl]at q9 ⊢;have c:=he' _ s9 σ8 H9 _ I9 q9;rw[L,Y,S,U,eX]at c;refine Rc c (λy l ⟨v10,H10,I10,r10,a5,ha10,hl10,m',I,w10⟩=>?_) λ_ _ z=>z.elim;have d:=tL (X:=X') _ l σ8 H10 (.ref s.heap.objs.size) [v10] (.ref s.heap.objs.size) [y] (λ_ H11=>W (i+1) m' (a5++[v10]) H11) I10 rfl (.cons r10 .nil) ⟨_,a5,v10,rfl,rfl,ha10,hl10,w10⟩;rw[Y,S,U,eX]at d;refine Rc d (λ_ s11 ⟨_,H11,I11,_,w11⟩=>O I11 I w11) λ_ _ z=>z.elim
 exact codeAny_compStart_list a4 (T.self _ 0 _ _ _ (T.keep _ _ _ a1 λb f o e=>t _ _ (M _ _ e)) a4)
def Z2l(hc:X.calm=true)(f:gL X.env.scope X.N scope fr=true)(hi:PI X tg iter wi)
  (y:∀cl C s0 H0 ex pins,PG (eM X (eG tgs fr X.N) scope cl C s0 H0 ex pins) tg g)
  (v:∀cl C s0 H0 ex pins,PTs (eM X (eG tgs fr X.N) scope cl C s0 H0 ex pins) ifs tt)
  (he:∀cl C s0 H0 ex pins,PE (eM X (eG tgs fr X.N) scope cl C s0 H0 ex pins) elt te)
  (hs:∀x,foldedSetIterable iter X.env x=pure x:=by intro _;rfl) :
  PE X (.ListComp elt [⟨tg,iter,ifs,0⟩] scope pos) (Z1W wi tgs.length fr g tt te):=by
 intro pins s σ H Q I h;have a:=f;simp only[gL,QaE,Qa9]at a;obtain⟨⟨⟨⟨F,U⟩,E⟩,Y⟩,G⟩:=a;obtain⟨cl,u,j,l⟩:=zH (scope:=scope) (env:=X.env) λn p=>I.ok.has n (by have:=E _ p;show X.env.scope.names.lookup n=_\/X.env.scope.names.lookup n=_;simpa using this);rw[eval_ListComp];refine wpAny_comprehension_free (use:=none) rfl hs u (by simpa using F) (λx hx hl=>by have:=G x hx;rw[hl]at this;simpa using this) (thn (hi pins s σ H _ I h) λx s1 h1=>thn h1 λitv s2 h2=>?_);obtain⟨it,fp,S,J,W,rfl,M,T,t,P,K⟩:=h2;refine Z0j (R:=Q) (RR:=λacc C=>compPost (model X.prog X.w) X.A X.xe none (EP X pins σ Q) acc C) M T t P hc f j l y v he K ?_;intro D C s' i m O p L B hsz r hps q;exact⟨m,p,λh' hs'=>⟨.ref D,i,O.turned (t':=s'.toks) (λb o hb e=>hs'.extBut b o hb e) L B (.inr hsz) r hps,rfl,q⟩⟩
def yB(hc:X.calm=true)(Y:X.N.Nodup)(K:X.N[i]?=some x)(E:Loc X.env.scope x)(l:gL X.env.scope X.N scope fr=true)(hi:PI X tg iter wi)
  (S:∀cl C s0 H0 ex pins,PG (eM X (eG tgs fr X.N) scope cl C s0 H0 ex pins) tg g)
  (R:∀cl C s0 H0 ex pins,PTs (eM X (eG tgs fr X.N) scope cl C s0 H0 ex pins) ifs tt)
  (he:∀cl C s0 H0 ex pins,PE (eM X (eG tgs fr X.N) scope cl C s0 H0 ex pins) elt te)
  (O:swapsWith (.ListComp elt [⟨tg,iter,ifs,0⟩] scope pos) (some (.Name x pos')) spos.line X.env=pure true)
  (hf:X.fn x=true\/X.env.scope.names.lookup x=some .local:=by first|exact .inl rfl|exact .inr rfl|assumption)
  (hs:∀x,foldedSetIterable iter X.env x=pure x:=by intro _;rfl) :
  PS X (.Assign [.Name x pos'] (.ListComp elt [⟨tg,iter,ifs,0⟩] scope pos) spos) (Z0O (Z1W wi tgs.length fr g tt te) (F8 i)):=by
 intro pins s σ H D I h;have f:=l;simp only[gL,QaE,Qa9]at f;obtain⟨⟨⟨⟨W,c2⟩,U⟩,c4⟩,Z⟩:=f;obtain⟨cl,P,t,y⟩:=zH (scope:=scope) (env:=X.env) λn B=>I.ok.has n (by have:=U _ B;show X.env.scope.names.lookup n=_\/X.env.scope.names.lookup n=_;simpa using this);rw[exec_Assign_Name_used _ _ _ _ O];refine Ra (wpAny_standAt (Ra ?_));show wpAny _ X.A (do let _ <- comprehension (.ListComp elt [⟨tg,iter,ifs,0⟩] scope pos) scope X.env _ (newList []) false (eval iter X.env) (some (assign (.Name x pos') X.env))) _ _ s
 refine Ra (Rc (wpAny_comprehension_free (use:=some (assign (.Name x pos') X.env)) (Q:=λ_ s'=>SP X pins D .next s') rfl hs P (by simpa using W) (λx E hl=>by have:=Z x E;rw[hl]at this;simpa using this)
  (thn (hi pins s σ H _ I h) λx s1 h1=>thn h1 λitv s2 h2=>?_)) (λ_ s' hq=>Rb (Rb hq)) λ_ _ e=>e)
 obtain⟨it,fp,tn,J,H2,rfl,I2,T,L,f2,rd⟩:=h2;refine Z0j (RR:=λacc C=>compPost (model X.prog X.w) X.A X.xe (some (assign (.Name _ pos') X.env)) (λ_ s'=>SP X pins D .next s') acc C) I2 T L f2 hc l t y S R he rd ?_;intro r C s' p m I' B F M hsz j hps q;show wpAny _ X.A (assign (.Name _ pos') X.env (.ref r)) _ _ s';refine wpAny_assign_Name (C9 I' Y K E (v:=.ref r) (u:=.ref r) rfl (λs'' I'' ⟨a,hsa,ha⟩=>?_) hf);have G:C≠a:=by
  rcases ha with z|z
  .rw[z];exact M
  .exact λe=>j _ _ z e.symm
 exact⟨m,B.sameBut hsa G,λh' hs'=>⟨_,p,I''.turned (t':=s''.toks) (λb o hb e=>hs'.extBut b o hb e) F M (.inr hsz) j hps,q⟩⟩
def Ite(K:Frag)(a:Af):It :=
 ⟨λi H=>∃xs x,SqL K H a xs/\xs[i]?=some x,λi H x H'=>∃p y,H p=none/\x=.ref p/\(∀xs,SqL K H a xs->xs[i]?=some y)/\H'=upd H p (.tup [.int (i:Int),y]),λi H=>∃xs,SqL K H a xs/\xs.length<=i⟩
def Z35{P:Aj}{w:Ak}{K:Frag}{elts:Ab Ag}{k1:Nat}{pos:Pos}(a e it:Af)(F:e≠it) :
  R6 P w K (.Tuple elts k1 pos) (Ite K a) [e,it] e (λi h=>(∃l,IsEnum h e it i l)/\h.IsListIter it a i) where
 mem:=by simp
 obj:=λi h st b f=>by
  obtain⟨⟨l,he⟩,o,T,c,d⟩:=st;rcases Qad.mp f with z|z
  .subst z;exact⟨_,he,λv q=>by cases q⟩
  .have z:b=it:=by simpa using z
   subst z;exact⟨o,T,λv q=>by rw[d]at q;cases q⟩
 keep:=λi h h' st k=>⟨let ⟨l,he⟩:=st.1;⟨l,k e (by simp) _ he⟩,st.2.at λo q=>k it (by simp) o q⟩
 item:=by
  intro X N hw G hc i pins s σ H E I C st J;subst N hw G;obtain⟨xs,x,hq,O⟩:=J;obtain⟨its,L,p,S⟩:=I.list hq;obtain⟨u,hu,U⟩:=L.get O;obtain⟨⟨l,he⟩,t⟩:=st;have fe:=C e (by simp);have fi:=C it (by simp);refine wpAny_pyNext_enum_item he t p.isList (x:=u) (by simpa using hu) F λh' M hit' hT hsz hk=>?_;refine⟨_,rfl,wpAny_letOwnedTupleGo_enum (s:={ s with heap:=h',toks:=s.toks+1 }) M λh'' he'' hs''=>?_⟩;have j:H s.heap.objs.size=none:=I.fresh;have lt:∀b o,s.heap.get? b=some o->b≠s.heap.objs.size:=λb o q=>QaM (Qal q);have B:∀b o,b≠e->b≠it->s.heap.get? b=some o->h''.get? b=some o:=λb o h1 h2 q=>(hs''.2 b h1).trans (hk b o h1 h2 q);have Q:e≠s.heap.objs.size:=lt _ _ he;have A:∀b u,H b=some u->b≠e/\b≠it:=λb u q=>⟨λz=>(by rw[z,fe.1]at q;cases q),λz=>(by rw[z,fi.1]at q;cases q)⟩;refine⟨.ref s.heap.objs.size,upd H s.heap.objs.size (.tup [.int (i:Int),x]),?_,rfl,⟨_,x,j,rfl,λys hy=>by rw[I.list_inj hy hq];exact O,rfl⟩,⟨⟨_,by simpa using he''⟩,hit'.at λo q=>(hs''.2 it (Ne.symm F)).trans q⟩,λb f=>?_⟩
  .refine Inv.step (s:=s) (h':=h'') (t':=s.toks+1) (H':=upd H s.heap.objs.size (.tup [.int (i:Int),x])) (g':=s.gens) (d':=s.drawn) (ch:=[e,it]) I (λb f=>?_) (λb o _ _ hc q _=>B b o (λz=>hc (by simp[z])) (λz=>hc (by simp[z])) q) (λb o _ _ hc q _=>⟨o.slots,B b o (λz=>hc (by simp[z])) (λz=>hc (by simp[z])) q⟩)
    (λb o _ q n=>by rw[aY (lt b o q)];exact n) (λb o hc q=>⟨o,B b o (λz=>hc (by simp[z])) (λz=>hc (by simp[z])) q⟩)
    (λb ys q=>by rw[aY (bO q j)];exact q) (λb o u q=>by rw[aY (bO q j)];exact q) (λb ps q=>⟨#[],by rw[aY (bO q j),q];simp⟩) (λm hm=>?_) (λb u q=>?_) I.bare
   .rcases Qad.mp f with z|z
    .subst z;exact⟨fe.2.2.2.1,fe.2.1,fe.2.2.2.2.1,fe.2.2.2.2.2⟩
    .have z:b=it:=by simpa using z
     subst z;exact⟨fi.2.2.2.1,fi.2.1,fi.2.2.2.2.1,fi.2.2.2.2.2⟩
   .obtain⟨o,es,ep,M,r⟩:=hm;exact⟨o,es,ep,B _ o (Ne.symm fe.2.1) (Ne.symm fi.2.1) M,r⟩
   .by_cases f:b=s.heap.objs.size
    .subst f;rw[bG]at q;cases q;refine⟨by show 2<=sizeLine;decide,[.int (i:Int) s.toks,u],.cons ⟨_,rfl⟩ (.cons U .nil),_,(hs''.2 _ (Ne.symm Q)).trans hT,rfl,_,rfl⟩
    .rw[aY f]at q;refine(I.hok b u q).stay (λc v hc z=>?_) (λc z=>by rw[aY (bO z j)];exact z) λc ys z=>by rw[aY (bO z j)];exact z
     rcases hc with y|y
     .rw[y]at z ⊢;exact B _ _ (A b u q).1 (A b u q).2 z
     .exact B _ _ (A c _ y).1 (A c _ y).2 z
  .have R:b<s.heap.objs.size:=by
    rcases Qad.mp f with z|z
    .subst z;exact Qal he
    .have z:b=it:=by simpa using z
     subst z;obtain⟨o,q,_⟩:=t;exact Qal q
   rw[aY (QaM R)];exact(C b f).1
 done:=by
  intro X N hw G hc i pins s σ H E I C st J;subst N hw G;obtain⟨xs,hq,O⟩:=J;obtain⟨its,L,p,S⟩:=I.list hq;obtain⟨⟨l,he⟩,t⟩:=st;obtain⟨f0,f1,f2,Y,Z,W⟩:=C it (by simp);have hl:=L.length;exact wpAny_pyNext_enum_end (I.ok.hd hc) he t p.isList (by simp;omega) λh' eb=>⟨rfl,I.turned (t':=s.toks) (λb o f e=>eb b o f e) f0 f1 Y Z W⟩
 self:=λ_ _ _ _ _ st h=>wpAny_pyIter_enum st.1.choose_spec h
section
variable {X:Cx}{elts:Ab Ag}{k1:Nat}{tpos:Pos}
def Zbm(K:Frag)(ta:TA):TI:=λσ H R=>ta σ H λvs H1=>∃a,vs=[.ref a]/\(∃xs,SqL K H1 a xs)/\R (Ite K a) H1
def Z86{l:Ag}{ta:TA}{p pos:Pos}(j:Gl X "enumerate")(i:X.mg "enumerate" = none)(f:PA X [l] ta)(hs:starEach [l] X.env=[(false,eval l X.env)]:=by rfl) :
  PI X (.Tuple elts k1 tpos) (.Call (.Name "enumerate" p) [l] [] pos) (Zbm X.K ta):=by
 intro pins s σ H R I h;refine Call_ (nA I j i PyProof.Rows.boot_enumerate (PyProof.Rows.callWith_type1 (thn (f pos pins s σ H _ I h) λus s1 ⟨vs,H1,I1,r1,q1⟩=>?_) hs rfl));obtain⟨a,rfl,⟨xs,hq⟩,q⟩:=q1;cases r1 with
 |cons r rr =>
  cases rr;cases r;obtain⟨its,t,pl,o⟩:=I1.list hq;refine call_enumerate_list pl.isList λh' he hit hsz hk=>?_;refine wpAny_pyIter_enum (s:={ s1 with heap:=h' }) he ?_;have n:Inv X pins σ H1 { s1 with heap:=h' }:=I1.kept (t':=s1.toks) hk;refine⟨s1.heap.objs.size+1,[s1.heap.objs.size+1,s1.heap.objs.size],_,_,H1,rfl,n,Z35 a _ _ (Nat.succ_ne_self _),⟨⟨_,he⟩,hit⟩,λb hb=>?_,q⟩;have e:s1.heap.objs.size<=b:=by
   rcases Qad.mp hb with z|z
   .rw[z];exact Nat.le_succ _
   .have z:b=s1.heap.objs.size:=by simpa using z
    rw[z];exact Qan _
  exact I1.fpOk e (I1.hok.fresh e)
end
end L2
namespace PD
open PySem PySem.Spec PyProof.Rows L2
inductive D where
 |non|bl (b:Bool)|int (i:Int)|str (x:Str)|tup (xs:List D)|lst (xs:List D)|obj (C:Addr) (ns:List Str) (xs:List D)|dk (ks:List Key) (xs:List D)|dt (ks:List (List Key)) (xs:List D)|exc (C:Addr)|fn (a:Addr) (vs:List V) (xs:List D)
def Zbe(a:Af)(cls:Ad):Ah->Prop:=λh=>∃oe vs,h.get? a=some oe/\oe.cls=cls/\oe.data=.fields vs
mutual
def flat:D->Bool
 | .non=>true
 | .bl _=>true
 | .int _=>true
 | .str _=>true
 | .tup xs=>flats xs
 | .lst _=>false
 | .obj _ _ _=>false
 | .dk _ _=>false
 | .dt _ _=>false
 | .exc _=>false
 | .fn _ _ _=>false
def flats:Ab D->Bool
 |[]=>true
 |x::r=>flat x&&flats r
end
def FzL(K:Frag)(H:Hp)(a:Af)(vs:Ab V):Prop:=(∃o,H a=some (.frz o (.lst vs))) \/
  ∃(o:Obj) (its:Ae Ad) (n:Nat),K.lookup a=some o/\o.cls=.type "list" /\ o.dict=none/\o.data=.seq its n/\its.size<=sizeLine/\Vals vs its.toList
def FzL.sq{K:Frag}{H:Hp}{a:Af}{vs:Ab V}(h:FzL K H a vs):SqL K H a vs:=by
 rcases h with⟨o,h⟩|h
 .exact .inl (.inr ⟨o,h⟩)
 .exact .inr h
def Z4U{K:Frag}{H:Hp}{a:Af}{vs:Ab V}(h:SqL K H a vs):H a=some (.lst vs)\/FzL K H a vs:=by
 rcases h with(h|⟨o,h⟩)|h
 .exact .inl h
 .exact .inr (.inl ⟨o,h⟩)
 .exact .inr (.inr h)
mutual
def Rep(K:Frag)(st:Bool)(H:Hp):D->V->Ab Af->Prop
 | .non,v,fp=>v=.non/\fp=[]
 | .bl b,v,fp=>v=.bl b/\fp=[]
 | .int i,v,fp=>v=.int i/\fp=[]
 | .str x,v,fp=>v=.str x/\fp=[]
 | .tup ds,v,fp=>∃a vs,v=.ref a/\SqT K H a vs/\Reps K st H ds vs fp
 | .lst ds,v,fp=>∃a vs fp',v=.ref a/\Reps K st H ds vs fp'/\((fp=a::fp'/\H a=some (.lst vs))\/(st=false/\fp=fp'/\FzL K H a vs))
 | .obj C ns ds,v,fp=>∃a dx vs fp',v=.ref a/\fp=a::dx::fp'/\H a=some (.ins C dx (ns.zip vs))/\H dx=some (.own a)/\ns.length=vs.length/\Reps K st H ds vs fp'
 | .dk ks ds,v,fp=>∃a vs fp',v=.ref a/\fp=a::fp'/\H a=some (.dK (ks.zip vs))/\ks.length=vs.length/\Reps K st H ds vs fp'
 | .dt ks ds,v,fp=>∃a es ep vs fp',v=.ref a/\es.map (·.1)=ks/\es.map (·.2.2)=vs/\(∀e∈es,SqT K H e.2.1 (e.1.map kV))/\Reps K st H ds vs fp'/\((fp=a::fp'/\H a=some (.dE es ep))\/(st=false/\fp=fp'/\∃o,H a=some (.frz o (.dE es ep))))
 | .exc C,v,fp=>∃a,v=.ref a/\fp=[a]/\H a=some (.ext (Zbe a (.ref C)))
 | .fn a vs ds,v,fp=>v=.ref a/\Reps K st H ds vs fp
def Reps(K:Frag)(st:Bool)(H:Hp):Ab D->Ab V->Ab Af->Prop
 |[],vs,fp=>vs=[]/\fp=[]
 |d::ds,vs,fp=>∃v r f1 f2,vs=v::r/\fp=f1++f2/\Rep K st H d v f1/\Reps K st H ds r f2
end
section
variable {K:Frag}{st:Bool}{H H':Hp}
structure Kp(fp:List Addr)(H H':Hp):Prop where
 fps:∀b∈fp,∀o,H b=some o->H' b=some o
 tup:∀b xs,H b=some (.tup xs)->H' b=some (.tup xs)
 frz:∀b o u,H b=some (.frz o u)->H' b=some (.frz o u)
def Kp.same(e:Same H H')(fp:Ab Af):Kp fp H H':=⟨λb _ o h=>e b o h,λb xs h=>e _ _ h,λb o u h=>e _ _ h⟩
def Kp.sub(k:Kp fp H H')(h:∀b∈fp',b∈fp):Kp fp' H H':=⟨λb hb=>k.fps b (h b hb),k.tup,k.frz⟩
theorem Kp.upd(h:H a=some o)(i:∀xs,o ≠ .tup xs)(j:∀x u,o ≠ .frz x u)(l:a∉fp):Kp fp H (L2.upd H a o') :=
 ⟨fun b n u e => by have f : b ≠ a := (fun z => l (by rw [<- z]; exact n)); rw [aY f]; exact e,
  λb xs e=>by rw[aY (λz=>by rw[z,h]at e;exact i xs (QaI e))];exact e,
  λb x u e=>by rw[aY (λz=>by rw[z,h]at e;exact j x u (QaI e))];exact e⟩
def Z0P(k:Kp fp H H'){a:Af}{xs:Ab V}(h:SqT K H a xs):SqT K H' a xs:=by
 rcases h with(h|⟨o,h⟩)|h
 .exact .inl (.inl (k.tup _ _ h))
 .exact .inl (.inr ⟨o,k.frz _ _ _ h⟩)
 .exact .inr h
def Zaj(k:Kp fp H H'){a:Af}{xs:Ab V}(h:FzL K H a xs):FzL K H' a xs:=by
 rcases h with⟨o,h⟩|h
 .exact .inl ⟨o,k.frz _ _ _ h⟩
 .exact .inr h
mutual
theorem Rep.keep:∀(d:D) (v:V) (fp:Ab Af),Kp fp H H'->Rep K st H d v fp->Rep K st H' d v fp
 | .non,v,fp,_,h=>by simpa only [Rep]using h
 | .bl b,v,fp,_,h=>by simpa only [Rep]using h
 | .int i,v,fp,_,h=>by simpa only [Rep]using h
 | .str x,v,fp,_,h=>by simpa only [Rep]using h
 | .tup ds,v,fp,k,h=>by
  simp only[Rep]at h ⊢;obtain⟨a,vs,e,hs,hr⟩:=h;exact⟨a,vs,e,Z0P k hs,Reps.keep ds vs fp k hr⟩
 | .lst ds,v,fp,k,h=>by
  simp only[Rep]at h ⊢;obtain⟨a,vs,fp',e,hr,hs⟩:=h;rcases hs with⟨rfl,hs⟩|⟨h1,rfl,hs⟩
  .exact⟨a,vs,fp',e,Reps.keep ds vs fp' (k.sub λb hb=>Qab _ hb) hr,.inl ⟨rfl,k.fps a Qah _ hs⟩⟩
  .exact⟨a,vs,fp,e,Reps.keep ds vs fp k hr,.inr ⟨h1,rfl,Zaj k hs⟩⟩
 | .obj C ns ds,v,fp,k,h=>by
  simp only[Rep]at h ⊢;obtain⟨a,dx,vs,fp',e,rfl,hs,hd,hl,hr⟩:=h;exact⟨a,dx,vs,fp',e,rfl,k.fps a Qah _ hs,k.fps dx (Qab _ Qah) _ hd,hl,Reps.keep ds vs fp' (k.sub λb hb=>Qab _ (Qab _ hb)) hr⟩
 | .dk ks ds,v,fp,k,h=>by
  simp only[Rep]at h ⊢;obtain⟨a,vs,fp',e,rfl,hs,hl,hr⟩:=h;exact⟨a,vs,fp',e,rfl,k.fps a Qah _ hs,hl,Reps.keep ds vs fp' (k.sub λb hb=>Qab _ hb) hr⟩
 | .dt ks ds,v,fp,k,h=>by
  simp only[Rep]at h ⊢;obtain⟨a,es,ep,vs,fp',e,hk,hv,ht,hr,hs⟩:=h;rcases hs with⟨rfl,hs⟩|⟨h1,rfl,o,hs⟩
  .exact⟨a,es,ep,vs,fp',e,hk,hv,λe he=>Z0P k (ht e he),Reps.keep ds vs fp' (k.sub λb hb=>Qab _ hb) hr,.inl ⟨rfl,k.fps a Qah _ hs⟩⟩
  .exact⟨a,es,ep,vs,fp,e,hk,hv,λe he=>Z0P k (ht e he),Reps.keep ds vs fp k hr,.inr ⟨h1,rfl,o,k.frz _ _ _ hs⟩⟩
 | .exc C,v,fp,k,h=>by
  simp only[Rep]at h ⊢;obtain⟨a,e,rfl,hs⟩:=h;exact⟨a,e,rfl,k.fps a Qah _ hs⟩
 | .fn a vs ds,v,fp,k,h=>by
  simp only[Rep]at h ⊢;exact⟨h.1,Reps.keep ds vs fp k h.2⟩
theorem Reps.keep:∀(ds:Ab D) (vs:Ab V) (fp:Ab Af),Kp fp H H'->Reps K st H ds vs fp->Reps K st H' ds vs fp
 |[],vs,fp,_,h=>by simpa only [Reps]using h
 |d::ds,vs,fp,k,h=>by
  simp only[Reps]at h ⊢;obtain⟨v,r,f1,f2,e1,rfl,h1,h2⟩:=h;exact⟨v,r,f1,f2,e1,rfl,Rep.keep d v f1 (k.sub λb hb=>Qaq _ hb) h1,Reps.keep ds r f2 (k.sub λb hb=>Qag _ hb) h2⟩
end
theorem Rep.same(e:Same H H')(h:Rep K st H d v fp):Rep K st H' d v fp:=Rep.keep d v fp (Kp.same e fp) h
theorem Reps.same(e:Same H H')(h:Reps K st H ds vs fp):Reps K st H' ds vs fp:=Reps.keep ds vs fp (Kp.same e fp) h
mutual
theorem Rep.dom:∀(d:D) (v:V) (fp:Ab Af),Rep K st H d v fp->∀b∈fp,∃o,H b=some o
 | .non,v,fp,h,b,hb=>by simp only[Rep]at h;rw[h.2]at hb;cases hb
 | .bl _,v,fp,h,b,hb=>by simp only[Rep]at h;rw[h.2]at hb;cases hb
 | .int _,v,fp,h,b,hb=>by simp only[Rep]at h;rw[h.2]at hb;cases hb
 | .str _,v,fp,h,b,hb=>by simp only[Rep]at h;rw[h.2]at hb;cases hb
 | .tup ds,v,fp,h,b,hb=>by
  simp only[Rep]at h;obtain⟨a,vs,e,hs,hr⟩:=h;exact Reps.dom ds vs fp hr b hb
 | .lst ds,v,fp,h,b,hb=>by
  simp only[Rep]at h;obtain⟨a,vs,fp',e,hr,hs⟩:=h;rcases hs with⟨rfl,hs⟩|⟨_,rfl,hs⟩
  .rcases Qad.mp hb with z|z
   .exact⟨_,z ▸ hs⟩
   .exact Reps.dom ds vs fp' hr b z
  .exact Reps.dom ds vs fp hr b hb
 | .obj C ns ds,v,fp,h,b,hb=>by
  simp only[Rep]at h;obtain⟨a,dx,vs,fp',e,rfl,hs,hd,hl,hr⟩:=h;rcases Qad.mp hb with z|z
  .exact⟨_,z ▸ hs⟩
  .rcases Qad.mp z with z|z
   .exact⟨_,z ▸ hd⟩
   .exact Reps.dom ds vs fp' hr b z
 | .dk ks ds,v,fp,h,b,hb=>by
  simp only[Rep]at h;obtain⟨a,vs,fp',e,rfl,hs,hl,hr⟩:=h;rcases Qad.mp hb with z|z
  .exact⟨_,z ▸ hs⟩
  .exact Reps.dom ds vs fp' hr b z
 | .dt ks ds,v,fp,h,b,hb=>by
  simp only[Rep]at h;obtain⟨a,es,ep,vs,fp',e,hk,hv,ht,hr,hs⟩:=h;rcases hs with⟨rfl,hs⟩|⟨_,rfl,o,hs⟩
  .rcases Qad.mp hb with z|z
   .exact⟨_,z ▸ hs⟩
   .exact Reps.dom ds vs fp' hr b z
  .exact Reps.dom ds vs fp hr b hb
 | .exc C,v,fp,h,b,hb=>by
  simp only[Rep]at h;obtain⟨a,e,rfl,hs⟩:=h;rw[QaS.mp hb];exact⟨_,hs⟩
 | .fn a vs ds,v,fp,h,b,hb=>by
  simp only[Rep]at h;exact Reps.dom ds vs fp h.2 b hb
theorem Reps.dom:∀(ds:Ab D) (vs:Ab V) (fp:Ab Af),Reps K st H ds vs fp->∀b∈fp,∃o,H b=some o
 |[],vs,fp,h,b,hb=>by simp only[Reps]at h;rw[h.2]at hb;cases hb
 |d::ds,vs,fp,h,b,hb=>by
  simp only[Reps]at h;obtain⟨v,r,f1,f2,e1,rfl,h1,h2⟩:=h;rcases Qai.mp hb with z|z
  .exact Rep.dom d v f1 h1 b z
  .exact Reps.dom ds r f2 h2 b z
end
mutual
theorem Rep.flat:∀(d:D) (v:V) (fp:Ab Af),PD.flat d=true->Rep K st H d v fp->fp=[]/\∀st',Rep K st' H d v []
 | .non,v,fp,_,h=>by simp only[Rep]at h ⊢;exact⟨h.2,λ_=>⟨h.1,trivial⟩⟩
 | .bl _,v,fp,_,h=>by simp only[Rep]at h ⊢;exact⟨h.2,λ_=>⟨h.1,trivial⟩⟩
 | .int _,v,fp,_,h=>by simp only[Rep]at h ⊢;exact⟨h.2,λ_=>⟨h.1,trivial⟩⟩
 | .str _,v,fp,_,h=>by simp only[Rep]at h ⊢;exact⟨h.2,λ_=>⟨h.1,trivial⟩⟩
 | .tup ds,v,fp,f,h=>by
  simp only[Rep]at h ⊢;obtain⟨a,vs,e,hs,hr⟩:=h;obtain⟨h1,h2⟩:=Reps.flat ds vs fp (by simpa only [PD.flat]using f) hr;exact⟨h1,λst'=>⟨a,vs,e,hs,h2 st'⟩⟩
 | .lst ds,v,fp,f,h=>by simp only[PD.flat]at f;cases f
 | .obj C ns ds,v,fp,f,h=>by simp only[PD.flat]at f;cases f
 | .dk ks ds,v,fp,f,h=>by simp only[PD.flat]at f;cases f
 | .dt ks ds,v,fp,f,h=>by simp only[PD.flat]at f;cases f
 | .exc C,v,fp,f,h=>by simp only[PD.flat]at f;cases f
 | .fn a vs ds,v,fp,f,h=>by simp only[PD.flat]at f;cases f
theorem Reps.flat:∀(ds:Ab D) (vs:Ab V) (fp:Ab Af),flats ds=true->Reps K st H ds vs fp->fp=[]/\∀st',Reps K st' H ds vs []
 |[],vs,fp,_,h=>by simp only[Reps]at h ⊢;exact⟨h.2,λ_=>⟨h.1,trivial⟩⟩
 |d::ds,vs,fp,f,h=>by
  simp only[Reps]at h ⊢;simp only[flats,QaE]at f;obtain⟨v,r,f1,f2,e1,rfl,h1,h2⟩:=h;obtain⟨a1,a2⟩:=Rep.flat d v f1 f.1 h1;obtain⟨b1,b2⟩:=Reps.flat ds r f2 f.2 h2;subst a1 b1;exact⟨rfl,λst'=>⟨v,r,[],[],e1,rfl,a2 st',b2 st'⟩⟩
end
mutual
theorem Rep.weak:∀(d:D) (v:V) (fp:Ab Af),Rep K st H d v fp->Rep K false H d v fp
 | .non,v,fp,h=>by simpa only [Rep]using h
 | .bl _,v,fp,h=>by simpa only [Rep]using h
 | .int _,v,fp,h=>by simpa only [Rep]using h
 | .str _,v,fp,h=>by simpa only [Rep]using h
 | .tup ds,v,fp,h=>by
  simp only[Rep]at h ⊢;obtain⟨a,vs,e,hs,hr⟩:=h;exact⟨a,vs,e,hs,Reps.weak ds vs fp hr⟩
 | .lst ds,v,fp,h=>by
  simp only[Rep]at h ⊢;obtain⟨a,vs,fp',e,hr,hs⟩:=h;refine⟨a,vs,fp',e,Reps.weak ds vs fp' hr,?_⟩;rcases hs with hs|⟨_,h1,h2⟩
  .exact .inl hs
  .exact .inr ⟨trivial,h1,h2⟩
 | .obj C ns ds,v,fp,h=>by
  simp only[Rep]at h ⊢;obtain⟨a,dx,vs,fp',e,h1,hs,hd,hl,hr⟩:=h;exact⟨a,dx,vs,fp',e,h1,hs,hd,hl,Reps.weak ds vs fp' hr⟩
 | .dk ks ds,v,fp,h=>by
  simp only[Rep]at h ⊢;obtain⟨a,vs,fp',e,h1,hs,hl,hr⟩:=h;exact⟨a,vs,fp',e,h1,hs,hl,Reps.weak ds vs fp' hr⟩
 | .dt ks ds,v,fp,h=>by
  simp only[Rep]at h ⊢;obtain⟨a,es,ep,vs,fp',e,hk,hv,ht,hr,hs⟩:=h;exact⟨a,es,ep,vs,fp',e,hk,hv,ht,Reps.weak ds vs fp' hr,hs.imp id λ⟨_,h2⟩=>⟨by trivial,h2⟩⟩
 | .exc C,v,fp,h=>by simpa only [Rep]using h
 | .fn a vs ds,v,fp,h=>by
  simp only[Rep]at h ⊢;exact⟨h.1,Reps.weak ds vs fp h.2⟩
theorem Reps.weak:∀(ds:Ab D) (vs:Ab V) (fp:Ab Af),Reps K st H ds vs fp->Reps K false H ds vs fp
 |[],vs,fp,h=>by simpa only [Reps]using h
 |d::ds,vs,fp,h=>by
  simp only[Reps]at h ⊢;obtain⟨v,r,f1,f2,e1,e2,h1,h2⟩:=h;exact⟨v,r,f1,f2,e1,e2,Rep.weak d v f1 h1,Reps.weak ds r f2 h2⟩
end
theorem Reps.length:∀{ds:Ab D}{vs:Ab V}{fp:Ab Af},Reps K st H ds vs fp->vs.length=ds.length
 |[],vs,fp,h=>by simp only[Reps]at h;rw[h.1];rfl
 |d::ds,vs,fp,h=>by
  simp only[Reps]at h;obtain⟨v,r,f1,f,b,e,h1,a⟩:=h;rw[b,Qaf,Qaf,Reps.length a]
theorem Reps.get:∀{ds:Ab D}{vs:Ab V}{fp:Ab Af}{i:Nat}{d:D},Reps K st H ds vs fp->ds[i]?=some d->∃v f,vs[i]?=some v/\Rep K st H d v f/\(∀b∈f,b∈fp)/\(fp.Nodup->f.Nodup)
 |[],vs,fp,i,d,h,e=>by simp at e
 |d::ds,vs,fp,i,d',h,e=>by
  simp only[Reps]at h;obtain⟨v,r,f1,q,rfl,rfl,h1,j⟩:=h;cases i with
  |zero =>
   simp at e;subst e;exact⟨v,f1,rfl,h1,λb hb=>Qaq _ hb,λa=>(Qau.mp a).1⟩
  |succ i =>
   obtain⟨w,f,l,p,o,n⟩:=Reps.get j (by simpa using e);exact⟨w,f,by simpa using l,p,λb hb=>Qag _ (o b hb),λa=>n (Qau.mp a).2.1⟩
theorem Reps.snoc:∀{ds:Ab D}{vs:Ab V}{fp fd:Ab Af}{d:D}{v:V},Reps K st H ds vs fp->Rep K st H d v fd->Reps K st H (ds++[d]) (vs++[v]) (fp++fd)
 |[],vs,fp,fd,d,v,h,hd=>by
  simp only[Reps]at h;obtain⟨rfl,rfl⟩:=h;simp only[Qbq,Reps];exact⟨v,[],fd,[],rfl,(QaP _).symm,hd,rfl,rfl⟩
 |d'::ds,vs,fp,fd,d,v,h,hd=>by
  simp only[Reps]at h;obtain⟨w,r,f1,b,rfl,rfl,h1,a⟩:=h;simp only[Qa5,Reps];exact⟨w,r++[v],f1,b++fd,rfl,Qa1 ..,h1,Reps.snoc a hd⟩
theorem Reps.append:∀{ds es:Ab D}{vs us:Ab V}{fp fd:Ab Af},Reps K st H ds vs fp->Reps K st H es us fd->Reps K st H (ds++es) (vs++us) (fp++fd)
 |[],es,vs,us,fp,fd,h,hd=>by
  simp only[Reps]at h;obtain⟨rfl,rfl⟩:=h;exact hd
 |d'::ds,es,vs,us,fp,fd,h,hd=>by
  simp only[Reps]at h;obtain⟨w,r,f1,b,rfl,rfl,h1,a⟩:=h;simp only[Qa5,Reps];exact⟨w,r++us,f1,b++fd,rfl,Qa1 ..,h1,Reps.append a hd⟩
def cA(h:Rep K st H (.lst ds) v fp):∃a vs fp',v=.ref a/\SqL K H a vs/\Reps K st H ds vs fp'/\(∀b∈fp',b∈fp):=by
 simp only[Rep]at h;obtain⟨a,vs,fp',e,f,hs⟩:=h;rcases hs with⟨rfl,hs⟩|⟨_,rfl,hs⟩
 .exact⟨a,vs,fp',e,SqL.of hs,f,λb hb=>Qab _ hb⟩
 .exact⟨a,vs,fp,e,hs.sq,f,λb hb=>hb⟩
def hG(h:Rep K true H (.lst ds) v fp):∃a vs fp',v=.ref a/\fp=a::fp'/\H a=some (.lst vs)/\Reps K true H ds vs fp':=by
 simp only[Rep]at h;obtain⟨a,vs,fp',e,f,hs⟩:=h;rcases hs with⟨b,hs⟩|⟨z,_⟩
 .exact⟨a,vs,fp',e,b,hs,f⟩
 .cases z
end
abbrev Slot:=Aa (Bool×D)
abbrev En:=Ab Slot
def EnvOk(K:Frag)(H:Hp)(σ:L2.St)(env:En)(F:Nat->Ab Af):Prop :=
 ∀i o d,env[i]?=some (some (o,d))->∃v,σ[i]?=some (some v)/\Rep K false H d v (F i)
theorem EnvOk.same{K:Frag}(h:EnvOk K H σ env F)(e:Same H H'):EnvOk K H' σ env F :=
 λi o d q=>let ⟨v,h1,h2⟩:=h i o d q;⟨v,h1,h2.same e⟩
def Cond(F:Nat->Ab Af)(H:Hp)(m:Bool)(rs:Ab Nat)(fp:Ab Af):Prop:=(∀b∈fp,H b=none\/∃r∈rs,b∈F r)/\(m=true->fp.Nodup/\∀b∈fp,H b=none)
def Cond.nil:Cond F H m rs []:=⟨λb hb=>(by cases hb),λ_=>⟨QaF,λb hb=>(by cases hb)⟩⟩
def Cond.back(c:Cond F H' m rs fp)(e:Same H H'):Cond F H m rs fp :=
 ⟨λb hb=>(c.1 b hb).imp (λz=>e.free z) id,λa=>⟨(c.2 a).1,λb hb=>e.free ((c.2 a).2 b hb)⟩⟩
def tD(K:Frag)(m:Bool)(rs:Ab Nat)(f:En->Aa D):TE:=λσ H Q =>
 ∃env F d,EnvOk K H σ env F/\f env=some d/\∀v H' fp,Same H H'->Rep K m H' d v fp->Cond F H m rs fp->Q v H'
def tDT(K:Frag)(f:En->Aa Bool):TT:=λσ H Q =>
 ∃env F b,EnvOk K H σ env F/\f env=some b/\∀H',Same H H'->Q b H'
def tDA(K:Frag)(m:Bool)(rs:Ab Nat)(f:En->Aa (Ab D)):TA:=λσ H Q =>
 ∃env F ds,EnvOk K H σ env F/\f env=some ds/\∀vs H' fp,Same H H'->Reps K m H' ds vs fp->Cond F H m rs fp->Q vs H'
def QE(X:Cx)(m:Bool)(rs:Ab Nat)(e:Ag)(f:En->Aa D):Prop:=PE X e (tD X.K m rs f)
def QT(X:Cx)(e:Ag)(f:En->Aa Bool):Prop:=PT X e (tDT X.K f)
def QW(X:Cx)(e:Ag)(f:En->Aa Bool):Prop:=PW X e (tDT X.K f)
def QA(X:Cx)(m:Bool)(rs:Ab Nat)(es:Ab Ag)(f:En->Aa (Ab D)):Prop:=PA X es (tDA X.K m rs f)
section
variable {X:Cx}{m m':Bool}{rs rs':Ab Nat}{e a b c:Ag}{es rest:Ab Ag}{f fa fb:En->Aa D}{g ga gb:En->Aa Bool}{pos:Pos}
def QE.mk(h:PE X e t)(hi:∀σ H Q,tD X.K m rs f σ H Q->t σ H Q):QE X m rs e f:=λpins s σ H Q I q=>h pins s σ H Q I (hi σ H Q q)
def QT.mk(h:PT X e t)(hi:∀σ H Q,tDT X.K g σ H Q->t σ H Q):QT X e g:=λpins s σ H Q I q=>h pins s σ H Q I (hi σ H Q q)
def QW.mk(h:PW X e t)(hi:∀σ H Q,tDT X.K g σ H Q->t σ H Q):QW X e g:=λwhole pins s σ H Q I q=>h whole pins s σ H Q I (hi σ H Q q)
def QW.qt(h:QW X e g):QT X e g:=h.pt
def aD(i:Nat):En->Aa D:=λenv=>(env[i]?).join.map (·.2)
def fC(d:D):En->Aa D:=λ_=>some d
def fI2(C:Int->Int->Prop)(g:Int->Int->D)(fa fb:En->Aa D):En->Aa D:=λenv =>
 match fa env,fb env with
 |some (.int i),some (.int j)=>open Classical in if C i j then some (g i j) else none
 |_,_=>none
def fI0(g:Int->Int->D)(fa fb:En->Aa D):En->Aa D:=λenv =>
 match fa env,fb env with
 |some (.int i),some (.int j)=>some (g i j)
 |_,_=>none
def bC(f:En->Aa D):En->Aa D:=λenv=>match f env with
 |some d=>if flat d=true then some d else none
 |none=>none
def fB(f:En->Aa D):En->Aa Bool:=λenv=>match f env with
 |some (.bl b)=>some b
 |_=>none
def uJ(f:En->Aa Bool):En->Aa D:=λenv=>(f env).map .bl
def nE(f g:En->Aa Bool):En->Aa Bool:=λenv=>match f env with
 |some true=>g env
 |some false=>some false
 |none=>none
def fOr(f g:En->Aa Bool):En->Aa Bool:=λenv=>match f env with
 |some false=>g env
 |some true=>some true
 |none=>none
def mL(f:En->Aa Bool):En->Aa Bool:=λenv=>(f env).map (!·)
def fIf{α:Type}(c:En->Aa Bool)(f g:En->Aa α):En->Aa α:=λenv=>match c env with
 |some true=>f env
 |some false=>g env
 |none=>none
def aH:En->Aa (Ab D):=λ_=>some []
def aC(f:En->Aa D)(g:En->Aa (Ab D)):En->Aa (Ab D):=λenv=>match f env,g env with
 |some d,some ds=>some (d::ds)
 |_,_=>none
def gU(g:En->Aa (Ab D)):En->Aa D:=λenv=>match g env with
 |some ds=>if ds.length<=1000 then some (.tup ds) else none
 |none=>none
def dN(g:En->Aa (Ab D)):En->Aa D:=λenv=>match g env with
 |some ds=>if ds.length<=1000 then some (.lst ds) else none
 |none=>none
def bP{K:Frag}(h:Rep K m H (.int i) v fp):v=.int i:=by simp only[Rep]at h;exact h.1
def kF{K:Frag}(h:Rep K m H (.bl i) v fp):v=.bl i:=by simp only[Rep]at h;exact h.1
def dD{K:Frag}(h:Rep K m H (.str i) v fp):v=.str i:=by simp only[Rep]at h;exact h.1
def fN{K:Frag}(h:Rep K m H .non v fp):v=.non:=by simp only[Rep]at h;exact h.1
def fM{K:Frag}:Rep K m H (.int i) (.int i) []:=by simp only[Rep];exact⟨trivial,trivial⟩
def Y5{K:Frag}:Rep K m H (.bl i) (.bl i) []:=by simp only[Rep];exact⟨trivial,trivial⟩
def lE{K:Frag}:Rep K m H (.str i) (.str i) []:=by simp only[Rep];exact⟨trivial,trivial⟩
def tM{K:Frag}:Rep K m H .non .non []:=by simp only[Rep];exact⟨trivial,trivial⟩
def aA(i:Nat){x:Str}(j:X.N[i]?=some x:=by rfl)(a:Vis X.env.scope x:=by first|exact Or.inl rfl|exact Or.inr (Or.inl rfl)|exact Or.inr (Or.inr rfl))(hd:nDb x:=by decide)(f:(x==("__classdict__" : Str))=false:=by decide) :
  QE X false [i] (.Name x pos) (aD i) :=
 .mk (jG j a hd f) λσ H Q ⟨env,F,d,ok,e,q⟩=>by
  unfold aD at e;cases h1:env[i]? with
  |none=>rw[h1]at e;cases e
  |some o =>
   cases o with
   |none=>rw[h1]at e;cases e
   |some p =>
    rw[h1]at e;obtain⟨h,d'⟩:=p;have l:d'=d:=QaI e;subst l;obtain⟨v,a,n⟩:=ok i h d' h1;exact⟨v,a,q v H _ (Same.refl H) n ⟨λb hb=>.inr ⟨i,by simp,hb⟩,λz=>(by cases z)⟩⟩
def aE{i:Int}:QE X m rs (.Constant (.int i) j pos) (fC (.int i)):=.mk pe_int λσ H Q ⟨env,F,d,ok,e,q⟩=>by cases e;exact q _ _ _ (Same.refl H) fM .nil
def rR{i:Bool}:QE X m rs (.Constant (.bool i) j pos) (fC (.bl i)):=.mk Zb6 λσ H Q ⟨env,F,d,ok,e,q⟩=>by cases e;exact q _ _ _ (Same.refl H) Y5 .nil
def aP{i:Str}:QE X m rs (.Constant (.str i) j pos) (fC (.str i)):=.mk Za1 λσ H Q ⟨env,F,d,ok,e,q⟩=>by cases e;exact q _ _ _ (Same.refl H) lE .nil
def qN{j}:QE X m rs (.Constant .none j pos) (fC .non):=.mk Za2 λσ H Q ⟨env,F,d,ok,e,q⟩=>by cases e;exact q _ _ _ (Same.refl H) tM .nil
def wI{x:Str}(b:Gl X x)(a:X.mg x=some (.int i t))(hd:nDb x:=by decide):QE X m rs (.Name x pos) (fC (.int i)) :=
 .mk (wM (v:=.int i) b a ⟨t,rfl⟩ hd) λσ H Q ⟨env,F,d,ok,e,q⟩=>by cases e;exact q _ _ _ (Same.refl H) fM .nil
def Z7T{x:Str}(b:Gl X x)(a:X.mg x=some (.str i t))(hd:nDb x:=by decide):QE X m rs (.Name x pos) (fC (.str i)) :=
 .mk (wM (v:=.str i) b a ⟨t,rfl⟩ hd) λσ H Q ⟨env,F,d,ok,e,q⟩=>by cases e;exact q _ _ _ (Same.refl H) lE .nil
theorem QE.weak(h:QE X true [] e f):QE X false rs e f:=.mk h λσ H Q ⟨env,F,d,ok,e,q⟩ =>
 ⟨env,F,d,ok,e,λv H' fp s r c=>q v H' fp s (Rep.weak _ _ _ r) ⟨λb hb=>(c.1 b hb).imp id λ⟨r,a,_⟩=>(by simp at a),λz=>(by cases z)⟩⟩
def QE.more(h:QE X false rs e f)(hs:∀r∈rs,r∈rs'):QE X false rs' e f:=.mk h λσ H Q ⟨env,F,d,ok,e,q⟩ =>
 ⟨env,F,d,ok,e,λv H' fp s r c=>q v H' fp s r ⟨λb hb=>(c.1 b hb).imp id λ⟨r,a,z⟩=>⟨r,hs r a,z⟩,c.2⟩⟩
def Rp(h:QE X false rs e f)(hs:∀r∈rs,r∈rs':=by simp):QE X false rs' e f:=h.more hs
theorem QE.flat(h:QE X m' rs e f):QE X m rs' e (bC f):=.mk h λσ H Q ⟨env,F,d,ok,e,q⟩=>by
 unfold bC at e;cases h1:f env with
 |none=>rw[h1]at e;cases e
 |some d' =>
  rw[h1]at e;by_cases a:PD.flat d'=true
  .simp only[a,Rm]at e;cases e;refine⟨env,F,_,ok,h1,λv H' fp s r c=>?_⟩;obtain⟨i,b⟩:=Rep.flat _ _ _ a r;exact q v H' [] s (b _) .nil
  .simp only[a]at e;cases e
def two{K:Frag}{R:V->V->Hp->Prop}(ok:EnvOk K H σ env F)(b:fa env=some x)(a:fb env=some y)
  (h:∀v u H' f1 f2,Same H H'->Rep K m1 H' x v f1->Rep K m2 H' y u f2->Cond F H m1 rs1 f1->Cond F H m2 rs2 f2->R v u H'):tD K m1 rs1 fa σ H λv H1=>tD K m2 rs2 fb σ H1 λu H2=>R v u H2 :=
 ⟨env,F,x,ok,b,λv H1 f1 s1 r1 c1=>⟨env,F,y,ok.same s1,a,λu H2 f2 s2 r2 c2=>h v u H2 f1 f2 (s1.trans s2) (r1.same s2) r2 c1 (c2.back s1)⟩⟩
variable {m1 m2:Bool}{rs1 rs2:Ab Nat}
def aN{g:Int->Int->Int}(n:OpR X (binaryOp op) (rI C λi j=>.int (g i j)))(l:QE X m1 rs1 a fa)(o:QE X m2 rs2 b fb):QE X m rs (.BinOp a op b pos) (fI2 C (λi j=>.int (g i j)) fa fb) :=
 .mk (pe_op n l o) λσ H Q ⟨env,F,d,ok,e,q⟩=>by
  unfold fI2 at e;split at e
  .rename_i i j h f;split at e
   .rename_i hc;cases e;refine two ok h f λv u H' f1 f2 s r1 r2 _ _=>?_;rw[bP r1,bP r2];exact⟨i,j,rfl,rfl,hc,q _ _ _ s fM .nil⟩
   .cases e
  .cases e
def aV{g:Int->Int->Int}(l:OpR X (binaryOp op) (rI0 λi j=>.int (g i j)))(f:QE X m1 rs1 a fa)(o:QE X m2 rs2 b fb):QE X m rs (.BinOp a op b pos) (fI0 (λi j=>.int (g i j)) fa fb) :=
 .mk (pe_op l f o) λσ H Q ⟨env,F,d,ok,e,q⟩=>by
  unfold fI0 at e;split at e
  .rename_i i j n h;cases e;refine two ok n h λv u H' f1 f2 s r1 r2 _ _=>?_;rw[bP r1,bP r2];exact⟨i,j,rfl,rfl,q _ _ _ s fM .nil⟩
  .cases e
def Z11(h:QE X m rs e f)(he:∀whole,isTrue e X.env whole=(do let v <- whole;standAt e.pos;holding [v] (truthy v)):=by intro _;rfl):QT X e (fB f) :=
 .mk (Z5D h he) λσ H Q ⟨env,F,b,ok,e,q⟩=>by
  unfold fB at e;split at e
  .rename_i b' a;cases e;refine⟨env,F,_,ok,a,λv H' fp s r _=>?_⟩;rw[kF r];exact⟨_,rfl,q H' s⟩
  .cases e
def tH{f:CmpOp}(o:OpR X (compareOp f) r)(l:QE X m1 rs1 a fa)(p:QE X m2 rs2 b fb)(j:behindInMarks f b=false)
  (n:∀env x y K H v u f1 f2 Q bb,g env=some bb->fa env=some x->fb env=some y->Rep K m1 H x v f1->Rep K m2 H y u f2->K=X.K->Q (V.bl bb) H->r v u H Q) (t:∀env bb,g env=some bb->∃x y,fa env=some x/\fb env=some y):QT X (.Compare a [f] [b] pos) g :=
 .mk (Z2j o l p j) λσ H Q ⟨env,F,bb,ok,e,q⟩=>by
  obtain⟨x,y,i,h⟩:=t env bb e;exact two ok i h λv u H' f1 f2 s r1 r2 _ _=>n env x y _ H' v u f1 f2 _ bb e i h r1 r2 rfl ⟨_,rfl,q H' s⟩
def fBI(p:Int->Int->Bool)(fa fb:En->Aa D):En->Aa Bool:=λenv=>match fa env,fb env with
 |some (.int i),some (.int j)=>some (p i j)
 |_,_=>none
def L9{h:CmpOp}(o:OpR X (compareOp h) (rI0 λi j=>.bl (p i j)))(n:QE X m1 rs1 a fa)(r:QE X m2 rs2 b fb)(l:behindInMarks h b=false):QT X (.Compare a [h] [b] pos) (fBI p fa fb) :=
 tH o n r l (λenv x y K H v u f1 f2 Q bb e ea eb r1 r2 _ q=>by
  unfold fBI at e;rw[ea,eb]at e;split at e
  .rename_i i j h1 f;cases h1;cases f;cases e;rw[bP r1,bP r2];exact⟨i,j,rfl,rfl,q⟩
  .cases e) λenv bb e=>by
  unfold fBI at e;split at e
  .rename_i i j h1 f;exact⟨_,_,h1,f⟩
  .cases e
def xX(e:QE X m1 rs1 a fa)(f:QE X m2 rs2 b fb):QT X (.Compare a [.Lt] [b] pos) (fBI (λi j=>decide (i<j)) fa fb):=L9 Zb7 e f (lC _)
def Z28(e:QE X m1 rs1 a fa)(f:QE X m2 rs2 b fb):QT X (.Compare a [.Gt] [b] pos) (fBI (λi j=>decide (j<i)) fa fb):=L9 Zb8 e f (lC _)
def Z29(e:QE X m1 rs1 a fa)(f:QE X m2 rs2 b fb):QT X (.Compare a [.GtE] [b] pos) (fBI (λi j=>decide (j<=i)) fa fb):=L9 Zb9 e f (lC _)
def lO(neg:Bool)(fa:En->Aa D):En->Aa Bool:=λenv=>match fa env with
 |some .non=>some (!neg)
 |some _=>some neg
 |none=>none
def xR{K:Frag}(h:Rep K m H d v fp)(hd:d ≠ .non):v ≠ .non:=by
 cases d with
 |non=>exact absurd rfl hd
 |bl _=>simp only[Rep]at h;rw[h.1];simp
 |int _=>simp only[Rep]at h;rw[h.1];simp
 |str _=>simp only[Rep]at h;rw[h.1];simp
 |tup _=>simp only[Rep]at h;obtain⟨a,vs,e,_⟩:=h;rw[e];simp
 |lst _=>simp only[Rep]at h;obtain⟨a,vs,fp',e,_⟩:=h;rw[e];simp
 |obj _ _ _=>simp only[Rep]at h;obtain⟨a,dx,vs,fp',e,_⟩:=h;rw[e];simp
 |dk _ _=>simp only[Rep]at h;obtain⟨a,vs,fp',e,_⟩:=h;rw[e];simp
 |dt _ _=>simp only[Rep]at h;obtain⟨a,es,ep,vs,fp',e,_⟩:=h;rw[e];simp
 |exc _=>simp only[Rep]at h;obtain⟨a,e,_⟩:=h;rw[e];simp
 |fn _ _ _=>simp only[Rep]at h;rw[h.1];simp
def L8{j pos'}(b:QE X m1 rs1 a fa):QT X (.Compare a [.Is] [.Constant .none j pos'] pos) (lO false fa) :=
 tH Za6 b (m2:=false) (rs2:=[]) qN (lC _) (λenv x y K H v u f1 f2 Q bb e ea eb r1 r2 _ q=>by
  cases eb;refine⟨fN r2,?_⟩;unfold lO at e;rw[ea]at e;cases x with
  |non=>cases e;rw[fN r1];exact q
  |_=>cases e;rw[Rj (xR r1 (by intro z;cases z))];exact q) λenv bb e=>by
  unfold lO at e;cases h:fa env with
  |none=>rw[h]at e;cases e
  |some x=>exact⟨x,.non,rfl,rfl⟩
def rO{j pos'}(b:QE X m1 rs1 a fa):QT X (.Compare a [.IsNot] [.Constant .none j pos'] pos) (lO true fa) :=
 tH Z88 b (m2:=false) (rs2:=[]) qN (lC _) (λenv x y K H v u f1 f2 Q bb e ea eb r1 r2 _ q=>by
  cases eb;refine⟨fN r2,?_⟩;unfold lO at e;rw[ea]at e;cases x with
  |non=>cases e;rw[fN r1];exact q
  |_=>cases e;rw[Rj (xR r1 (by intro z;cases z))];exact q) λenv bb e=>by
  unfold lO at e;cases h:fa env with
  |none=>rw[h]at e;cases e
  |some x=>exact⟨x,.non,rfl,rfl⟩
def jU(b:QT X a ga):QW X (.BoolOp .And [a] pos) ga:=.mk (Z7Y b) λσ H Q q=>q
def qM(b:QT X a ga):QW X (.BoolOp .Or [a] pos) ga:=.mk (Z5y b) λσ H Q q=>q
def kG(f:QT X a ga)(h:QW X (.BoolOp .And (b::rest) pos) gb):QW X (.BoolOp .And (a::b::rest) pos) (nE ga gb) :=
 .mk (Z9X f h) λσ H Q ⟨env,F,bb,ok,e,q⟩=>by
  unfold nE at e;split at e
  .rename_i h1;exact⟨env,F,true,ok,h1,λH' s=>by refine Z6 ?_;exact⟨env,F,bb,ok.same s,e,λH2 s2=>q H2 (s.trans s2)⟩⟩
  .rename_i h1;cases e;exact⟨env,F,false,ok,h1,λH' s=>by refine Z7 ?_;exact q H' s⟩
  .cases e
def xW(f:QT X a ga)(h:QW X (.BoolOp .Or (b::rest) pos) gb):QW X (.BoolOp .Or (a::b::rest) pos) (fOr ga gb) :=
 .mk (Z92 f h) λσ H Q ⟨env,F,bb,ok,e,q⟩=>by
  unfold fOr at e;split at e
  .rename_i h1;exact⟨env,F,false,ok,h1,λH' s=>by refine Z7 ?_;exact⟨env,F,bb,ok.same s,e,λH2 s2=>q H2 (s.trans s2)⟩⟩
  .rename_i h1;cases e;exact⟨env,F,true,ok,h1,λH' s=>by refine Z6 ?_;exact q H' s⟩
  .cases e
def Z12(b:QT X a ga):QT X (.UnaryOp .Not a pos) (mL ga):=.mk (L2.pt_not b) λσ H Q ⟨env,F,bb,ok,e,q⟩=>by
 unfold mL at e;cases h:ga env with
 |none=>rw[h]at e;cases e
 |some b1=>rw[h]at e;cases e;exact⟨env,F,b1,ok,h,λH' s=>q H' s⟩
def Z5u(hc:QT X c g)(f:QE X m rs a fa)(h:QE X m rs b fb):QE X m rs (.IfExp c a b pos) (fIf g fa fb) :=
 .mk (L2.pe_ifExp hc f h) λσ H Q ⟨env,F,d,ok,e,q⟩=>by
  unfold fIf at e;split at e
  .rename_i h1;exact⟨env,F,true,ok,h1,λH' s=>by refine Z6 ?_;exact⟨env,F,d,ok.same s,e,λv H2 fp s2 r c=>q v H2 fp (s.trans s2) r (c.back s)⟩⟩
  .rename_i h1;exact⟨env,F,false,ok,h1,λH' s=>by refine Z7 ?_;exact⟨env,F,d,ok.same s,e,λv H2 fp s2 r c=>q v H2 fp (s.trans s2) r (c.back s)⟩⟩
  .cases e
def aW:QA X m rs [] aH:=λpos pins s σ H Q I ⟨env,F,ds,ok,e,q⟩=>pa_nil pos pins s σ H Q I (by cases e;exact q [] H [] (Same.refl H) (by simp only[Reps];exact⟨trivial,trivial⟩) .nil)
def aB{ga:En->Aa (Ab D)}(l:QE X m rs e f)(n:QA X m rs es ga)(hs:sEa e es X.env:=by rfl):QA X m rs (e::es) (aC f ga) :=
 λpos pins s σ H Q I ⟨env,F,ds,ok,e,q⟩=>pa_cons l n hs pos pins s σ H Q I (by
  unfold aC at e;split at e
  .rename_i d h h1 j;cases e;refine⟨env,F,d,ok,h1,λv H1 f1 s1 r1 c1=>⟨env,F,h,ok.same s1,j,λvs H2 f2 s2 r2 c2=>q _ H2 (f1++f2) (s1.trans s2) ?_ ?_⟩⟩
   .simp only[Reps];exact⟨v,vs,f1,f2,rfl,rfl,r1.same s2,r2⟩
   .refine⟨λb hb=>(Qai.mp hb).elim (c1.1 b) ((c2.back s1).1 b),λa=>⟨Qau.mpr ⟨(c1.2 a).1,(c2.2 a).1,λx hx y hy z=>?_⟩,λb hb=>(Qai.mp hb).elim ((c1.2 a).2 b) (((c2.back s1).2 a).2 b)⟩⟩;obtain⟨o,i⟩:=Rep.dom _ _ _ r1 x hx;rw[z,(c2.2 a).2 y hy]at i;cases i
  .cases e)
end
def jT(h:n<=1000):n<=sizeLine:=Qbe (iK h)
def qO{K:Frag}(hq:H q=none)(h:Reps K m H ds vs fp):Rep K m (upd H q (.tup vs)) (.tup ds) (.ref q) fp:=by
 have a:Same H (upd H q (.tup vs)):=λb o e=>by rw[aY (bO e hq)];exact e
 simp only[Rep];exact⟨q,vs,rfl,SqT.of bG,h.same a⟩
def iO{K:Frag}(hq:H q=none)(h:Reps K m H ds vs fp):Rep K m (upd H q (.lst vs)) (.lst ds) (.ref q) (q::fp):=by
 have a:Same H (upd H q (.lst vs)):=λb o e=>by rw[aY (bO e hq)];exact e
 simp only[Rep];exact⟨q,vs,fp,rfl,h.same a,.inl ⟨rfl,bG⟩⟩
def bU(hq:H q=none):Same H (upd H q o):=λb u e=>by rw[aY (bO e hq)];exact e
def iC{K:Frag}(s:Same H H')(hq:H' q=none)(r:Reps K m H' ds vs fp)(c:Cond F H m rs fp):Cond F H m rs (q::fp) :=
 ⟨fun b a => (Qad.mp a).elim (fun z => .inl (by rw [z]; exact s.free hq)) (c.1 b),
  λe=>⟨Qax.mpr ⟨λz=>(by obtain⟨o,f⟩:=Reps.dom _ _ _ r q z;rw[hq]at f;cases f),(c.2 e).1⟩,λb a=>(Qad.mp a).elim (λz=>by rw[z];exact s.free hq) ((c.2 e).2 b)⟩⟩
def gE(h:QA X m rs es fs):QE X m rs (.Tuple es x1 pos) (gU fs) :=
 .mk (L2.pe_tup h) λσ H Q ⟨env,F,d,ok,e,q⟩=>by
  unfold gU at e;split at e
  .rename_i ds h1;split at e
   .rename_i a;cases e;refine⟨env,F,ds,ok,h1,λvs H' fp s r c=>⟨jT (by rw[r.length];exact a),λp hp=>q _ _ fp (s.trans (bU hp)) (qO hp r) c⟩⟩
   .cases e
  .cases e
def cB(h:QA X m rs es fs):QE X m rs (.List es pos) (dN fs) :=
 .mk (L2.pe_lst h) λσ H Q ⟨env,F,d,ok,e,q⟩=>by
  unfold dN at e;split at e
  .rename_i ds h1;split at e
   .rename_i a;cases e;refine⟨env,F,ds,ok,h1,λvs H' fp s r c=>⟨jT (by rw[r.length];exact a),λp hp=>q _ _ (p::fp) (s.trans (bU hp)) (iO hp r) (iC s hp r c)⟩⟩
   .cases e
  .cases e
def fIx(fa fb:En->Aa D):En->Aa D:=λenv=>match fa env,fb env with
 |some (.lst ds),some (.int i)=>atI ds i
 |some (.tup ds),some (.int i)=>atI ds i
 |some (.str z),some (.int i)=>if z.length<=1000 then(atI z.cps.toList i).map λc=>.str ⟨#[c]⟩ else none
 |_,_=>none
def Z2V{K:Frag}(r:Reps K m H ds vs fp)(h:atI ds i=some d):∃v f,atI vs i=some v/\Rep K m H d v f/\(∀b∈f,b∈fp)/\(fp.Nodup->f.Nodup):=by
 unfold atI at h ⊢;rw[r.length];cases a:ixN ds.length i with
 |none=>rw[a]at h;cases h
 |some j =>
  rw[a]at h;exact r.get h
def aO(y:QE X m1 rs a fa)(l:QE X m2 rs2 b fb)(hs:wQ b:=by exact λ_ _=>rfl):QE X false rs (.Subscript a b pos) (fIx fa fb) :=
 .mk (Z5M Z1j y l hs) λσ H Q ⟨env,F,d,ok,e,q⟩=>by
  unfold fIx at e;split at e
  .rename_i ds i h1 h;refine two ok h1 h λv u H' f1 f2 s r1 r2 c1 c2=>?_;obtain⟨p,vs,fp',rfl,j,x,t⟩:=cA r1;obtain⟨w,f,o,r,n,_⟩:=Z2V x e;rw[bP r2];exact .inl ⟨p,vs,i,w,rfl,rfl,j,o,q w H' f s (Rep.weak _ _ _ r) ⟨λb l=>c1.1 b (t b (n b l)),λz=>(by cases z)⟩⟩
  .rename_i ds i h1 h;refine two ok h1 h λv u H' f1 f2 s r1 r2 c1 c2=>?_;simp only[Rep]at r1;obtain⟨p,vs,rfl,j,x⟩:=r1;obtain⟨w,f,o,r,n,_⟩:=Z2V x e;rw[bP r2];exact .inr (.inl ⟨p,vs,i,w,rfl,rfl,j,o,q w H' f s (Rep.weak _ _ _ r) ⟨λb l=>c1.1 b (n b l),λz=>(by cases z)⟩⟩)
  .rename_i z i h1 h;split at e
   .rename_i A;refine two ok h1 h λv u H' f1 f2 s r1 r2 c1 c2=>?_;cases hc:atI z.cps.toList i with
    |none=>rw[hc]at e;cases e
    |some ch =>
     rw[hc]at e;cases e;rw[dD r1,bP r2];exact .inr (.inr ⟨z,i,ch,rfl,rfl,jT A,hc,q _ H' [] s lE .nil⟩)
   .cases e
  .cases e
def QO(X:Cx)(e:Aa Ag)(f:En->Aa (Aa Int)):Prop:=PO X e (λσ H Q=>∃env F o,EnvOk X.K H σ env F/\f env=some o/\∀H',Same H H'->Q o H')
def gG:En->Aa (Aa Int):=λ_=>some none
def fP(f:En->Aa D):En->Aa (Aa Int):=λenv=>match f env with
 |some (.int i)=>some (some i)
 |_=>none
def dU:QO X none gG:=λpins s σ H Q I ⟨env,F,o,ok,e,q⟩=>Z83 pins s σ H Q I (by cases e;exact q H (Same.refl H))
def cV(h:QE X m rs e f):QO X (some e) (fP f):=λpins s σ H Q I ⟨env,F,o,ok,e,q⟩=>Z82 h pins s σ H Q I (by
 unfold fP at e;split at e
 .rename_i i h1;cases e;refine⟨env,F,_,ok,h1,λv H' fp s r _=>?_⟩;rw[bP r];exact⟨i,rfl,q H' s⟩
 .cases e)
def cutD(xs:Ab D)(lo hi:Aa Int):Ab D:=(xs.drop (HT.sIx xs.length 0 lo)).take (HT.sIx xs.length xs.length hi-HT.sIx xs.length 0 lo)
theorem Reps.drop{K:Frag}:∀(n:Nat) {ds:Ab D}{vs:Ab V}{fp:Ab Af},Reps K m H ds vs fp->∃f,Reps K m H (ds.drop n) (vs.drop n) f/\(∀b∈f,b∈fp)
 |0,ds,vs,fp,h=>⟨fp,h,λ_ h=>h⟩
 |n+1,[],vs,fp,h=>by simp only[Reps]at h;obtain⟨rfl,rfl⟩:=h;exact⟨[],by simp only[List.drop_nil,Reps];exact⟨trivial,trivial⟩,λ_ h=>h⟩
 |n+1,d::ds,vs,fp,h=>by
  simp only[Reps]at h;obtain⟨v,r,f1,j,rfl,rfl,h1,a⟩:=h;obtain⟨f,e,i⟩:=Reps.drop n a;exact⟨f,e,λb hb=>Qag _ (i b hb)⟩
theorem Reps.take{K:Frag}:∀(n:Nat) {ds:Ab D}{vs:Ab V}{fp:Ab Af},Reps K m H ds vs fp->∃f,Reps K m H (ds.take n) (vs.take n) f/\(∀b∈f,b∈fp)
 |0,ds,vs,fp,h=>⟨[],by simp only[List.take_zero,Reps];exact⟨trivial,trivial⟩,λb hb=>(by cases hb)⟩
 |n+1,[],vs,fp,h=>by simp only[Reps]at h;obtain⟨rfl,rfl⟩:=h;exact⟨[],by simp only[List.take_nil,Reps];exact⟨trivial,trivial⟩,λ_ h=>h⟩
 |n+1,d::ds,vs,fp,h=>by
  simp only[Reps]at h;obtain⟨v,r,f1,j,rfl,rfl,h1,a⟩:=h;obtain⟨f,e,i⟩:=Reps.take n a;refine⟨f1++f,by simp only[QbB,Reps];exact⟨v,_,f1,f,rfl,rfl,h1,e⟩,λb hb=>?_⟩;rcases Qai.mp hb with z|z
  .exact Qaq _ z
  .exact Qag _ (i b z)
def Reps.cut{K:Frag}(h:Reps K m H ds vs fp)(lo hi:Aa Int):∃f,Reps K m H (cutD ds lo hi) (Z0i vs lo hi) f/\(∀b∈f,b∈fp):=by
 unfold cutD Z0i;rw[h.length];obtain⟨f,a,j⟩:=Reps.drop (HT.sIx ds.length 0 lo) h;obtain⟨f',i,e⟩:=Reps.take (HT.sIx ds.length ds.length hi-HT.sIx ds.length 0 lo) a;exact⟨f',i,λb hb=>j b (e b hb)⟩
theorem mK:∀{ds:Ab D},(∀d∈ds,flat d=true)->flats ds=true
 |[],_=>rfl
 |d::ds,h=>by simp only[flats,QaE];exact⟨h d Qah,mK λx hx=>h x (Qab _ hx)⟩
def fSl(fa:En->Aa D)(fl fh:En->Aa (Aa Int)):En->Aa D:=λenv=>match fa env,fl env,fh env with
 |some (.lst ds),some lo,some hi=>if flats ds=true then some (.lst (cutD ds lo hi)) else none
 |some (.tup ds),some lo,some hi=>if flats ds=true/\¬(HT.sIx ds.length 0 lo=0/\HT.sIx ds.length ds.length hi=ds.length) then some (.tup (cutD ds lo hi)) else none
 |_,_,_=>none
def dQ{lo hi:Aa Ag}(y:QE X m1 rs1 a fa)(B:QO X lo fl)(C:QO X hi fh):QE X m rs (.Subscript a (.Slice lo hi none p2) pos) (fSl fa fl fh) :=
 .mk (L2.pe_slice (SlR.or Z1Y Z0Q) y B C) λσ H Q ⟨env,F,d,ok,e,q⟩=>by
  unfold fSl at e;split at e
  .rename_i ds l h h1 t w;split at e
   .rename_i i;cases e;refine⟨env,F,_,ok,h1,λv H1 f1 s1 r1 c1=>⟨env,F,l,ok.same s1,t,λH2 s2=>⟨env,F,h,ok.same (s1.trans s2),w,λH3 s3=>.inl ?_⟩⟩⟩;obtain⟨p,vs,fp',rfl,f,j,A⟩:=cA (r1.same (s2.trans s3));refine⟨p,vs,rfl,f,λp' hp=>?_⟩;obtain⟨x,r⟩:=Reps.flat _ _ _ i j;obtain⟨f',n,u⟩:=Reps.cut (r m) l h;obtain rfl:f'=[]:=Qbf.mpr λb hb=>(by cases u b hb);exact q _ _ [p'] (((s1.trans s2).trans s3).trans (bU hp)) (iO hp n) (iC ((s1.trans s2).trans s3) hp n .nil)
   .cases e
  .rename_i ds l h h1 t w;split at e
   .rename_i i;cases e;refine⟨env,F,_,ok,h1,λv H1 f1 s1 r1 c1=>⟨env,F,l,ok.same s1,t,λH2 s2=>⟨env,F,h,ok.same (s1.trans s2),w,λH3 s3=>.inr ?_⟩⟩⟩;have o:=r1.same (s2.trans s3);simp only[Rep]at o;obtain⟨p,vs,rfl,f,j⟩:=o;refine⟨p,vs,rfl,f,by rw[j.length];exact i.2,λp' hp=>?_⟩;obtain⟨x,r⟩:=Reps.flat _ _ _ i.1 j;obtain⟨f',n,u⟩:=Reps.cut (r m) l h;obtain rfl:f'=[]:=Qbf.mpr λb hb=>(by cases u b hb);exact q _ _ [] (((s1.trans s2).trans s3).trans (bU hp)) (qO hp n) .nil
   .cases e
  .cases e
def nW{id:String}(hc:CallR X (.builtin id) r)(h:Gl X x)(f:X.mg x=none)(i:bootBuiltins x=some (.builtin id))(j:QA X m1 rs1 (e::es) fs)
  (l:∀ds d vs H fp Q,F' ds=some d->Reps X.K m1 H ds vs fp->(∀v H' f',Same H H'->Rep X.K m H' d v f'->(∀b∈f',H b=none)->f'.Nodup->Q v H')->r vs H Q)
  (n:x ≠ "__name__":=by decide) (a:nDb x:=by decide) (he:sEa e es X.env:=by rfl) (hpl:bTa pos es X.env:=by rfl) :
  QE X m rs (.Call (.Name x p) (e::es) [] pos) (λenv=>(fs env).bind F') :=
 .mk (L2.pe_callB hc h f i j n a he hpl) λσ H Q ⟨env,F,d,ok,e,q⟩=>by
  cases h1:fs env with
  |none=>simp only[h1]at e;cases e
  |some ds =>
   simp only[h1]at e;exact⟨env,F,ds,ok,h1,λvs H' fp s r c=>l ds d vs H' fp Q e r λv H2 f' s2 r2 h2 nd=>q v H2 f' (s.trans s2) r2 ⟨λb hb=>.inl (s.free (h2 b hb)),λ_=>⟨nd,λb hb=>s.free (h2 b hb)⟩⟩⟩
def kA(hc:CallR X (.type T) r)(h:Gl X x)(f:X.mg x=none)(i:bootBuiltins x=some (.type T))(j:QA X m1 rs1 (e::es) fs)
  (l:∀ds d vs H fp Q,F' ds=some d->Reps X.K m1 H ds vs fp->(∀v H' f',Same H H'->Rep X.K m H' d v f'->(∀b∈f',H b=none)->f'.Nodup->Q v H')->r vs H Q)
  (n:x ≠ "__name__":=by decide) (a:nDb x:=by decide) (he:sEa e es X.env:=by rfl) (hpl:bTa pos es X.env:=by rfl) :
  QE X m rs (.Call (.Name x p) (e::es) [] pos) (λenv=>(fs env).bind F') :=
 .mk (L2.pe_callTy hc h f i j n a he hpl) λσ H Q ⟨env,F,d,ok,e,q⟩=>by
  cases h1:fs env with
  |none=>simp only[h1]at e;cases e
  |some ds =>
   simp only[h1]at e;exact⟨env,F,ds,ok,h1,λvs H' fp s r c=>l ds d vs H' fp Q e r λv H2 f' s2 r2 h2 nd=>q v H2 f' (s.trans s2) r2 ⟨λb hb=>.inl (s.free (h2 b hb)),λ_=>⟨nd,λb hb=>s.free (h2 b hb)⟩⟩⟩
def gY{K:Frag}(h:Reps K m H [d] vs fp):∃v,vs=[v]/\Rep K m H d v fp:=by
 simp only[Reps]at h;obtain⟨v,r,f1,a,rfl,rfl,h1,rfl,rfl⟩:=h;exact⟨v,rfl,by simpa using h1⟩
def Z21{K:Frag}(h:Reps K m H [d,d'] vs fp):∃v a f f',vs=[v,a]/\Rep K m H d v f/\Rep K m H d' a f'/\fp=f++f':=by
 simp only[Reps]at h;obtain⟨v,r,f1,i,rfl,rfl,h1,a,l,e,j,rfl,rfl,b,rfl,rfl⟩:=h;exact⟨v,a,f1,e,rfl,h1,b,by simp⟩
def bV:Ab D->Aa D
 |[.lst ds]=>some (.int ds.length)
 |[.tup ds]=>some (.int ds.length)
 |[.str z]=>if z.length<=1000 then some (.int z.length) else none
 |_=>none
def cL{p:Pos}(t:Gl X "len")(n:X.mg "len" = none)(j:QE X m1 rs1 a fa)(he:starEach [a] X.env=(false,eval a X.env)::starEach [] X.env:=by rfl)(hpl:(backTo pos (starEach [] X.env)).any (·.1)=false:=by rfl) :
  QE X m rs (.Call (.Name "len" p) [a] [] pos) (λenv=>(aC fa aH env).bind bV) :=
 nW (call_len_seq.or Q6) t n PySem.boot_len (aB j aW he) (λds d vs H fp Q e r q=>by
  unfold bV at e;split at e
  .cases e;obtain⟨v,rfl,f⟩:=gY r;obtain⟨p,ws,fp',rfl,h,i,l⟩:=cA f;exact .inl ⟨p,ws,rfl,.inl h,by rw[i.length];exact q _ _ [] (Same.refl H) fM (λb hb=>(by cases hb)) QaF⟩
  .cases e;obtain⟨v,rfl,f⟩:=gY r;simp only[Rep]at f;obtain⟨p,ws,rfl,h,i⟩:=f;exact .inl ⟨p,ws,rfl,.inr h,by rw[i.length];exact q _ _ [] (Same.refl H) fM (λb hb=>(by cases hb)) QaF⟩
  .split at e
   .rename_i o;cases e;obtain⟨v,rfl,f⟩:=gY r;rw[dD f];exact .inr ⟨_,rfl,jT o,q _ _ [] (Same.refl H) fM (λb hb=>(by cases hb)) QaF⟩
   .cases e
  .cases e) (he:=he) (hpl:=hpl)
def jR:Ab D->Aa D
 |[.lst ds]=>if flats ds=true then some (.lst ds) else none
 |[.tup ds]=>if flats ds=true then some (.lst ds) else none
 |_=>none
def Z4w:bootBuiltins "list" = some (.type "list"):=by decide +kernel
def Z1K:bootBuiltins "tuple" = some (.type "tuple"):=by decide +kernel
def Z0q:bootBuiltins "int" = some (.type "int"):=by decide +kernel
def Z6U:bootBuiltins "min" = some (.builtin "min"):=by decide +kernel
def Z6V:bootBuiltins "max" = some (.builtin "max"):=by decide +kernel
def rQ{p:Pos}(y:Gl X "list")(x:X.mg "list" = none)(u:QE X m1 rs1 a fa)(he:starEach [a] X.env=(false,eval a X.env)::starEach [] X.env:=by rfl)(hpl:(backTo pos (starEach [] X.env)).any (·.1)=false:=by rfl) :
  QE X m rs (.Call (.Name "list" p) [a] [] pos) (λenv=>(aC fa aH env).bind jR) :=
 kA Q5 y x Z4w (aB u aW he) (λds d vs H fp Q e r q=>by
  have A:∀{xs:Ab D}{ws:Ab V}{f:Ab Af}{l:Af},flats xs=true->Reps X.K m1 H xs ws f->H l=none->Q (.ref l) (upd H l (.lst ws))->True:=λ_ _ _ _=>trivial;unfold jR at e;split at e
  .split at e
   .rename_i n;cases e;obtain⟨v,rfl,i⟩:=gY r;obtain⟨p,ws,fp',rfl,h,o,w⟩:=cA i;refine⟨p,ws,rfl,.inl h,λl hl=>?_⟩;obtain⟨t,j⟩:=Reps.flat _ _ _ n o;exact q _ _ [l] (bU hl) (iO hl (j m)) (λb hb=>by simp at hb;rw[hb];exact hl) (by simp)
   .cases e
  .split at e
   .rename_i n;cases e;obtain⟨v,rfl,i⟩:=gY r;simp only[Rep]at i;obtain⟨p,ws,rfl,h,o⟩:=i;refine⟨p,ws,rfl,.inr h,λl hl=>?_⟩;obtain⟨t,j⟩:=Reps.flat _ _ _ n o;exact q _ _ [l] (bU hl) (iO hl (j m)) (λb hb=>by simp at hb;rw[hb];exact hl) (by simp)
   .cases e
  .cases e) (he:=he) (hpl:=hpl)
def uR:Ab D->Aa D
 |[.lst ds]=>if flats ds=true then some (.tup ds) else none
 |[.tup ds]=>if flats ds=true then some (.tup ds) else none
 |_=>none
def X3{p:Pos}(x:Gl X "tuple")(w:X.mg "tuple" = none)(t:QE X m1 rs1 a fa)(he:starEach [a] X.env=(false,eval a X.env)::starEach [] X.env:=by rfl)(hpl:(backTo pos (starEach [] X.env)).any (·.1)=false:=by rfl) :
  QE X m rs (.Call (.Name "tuple" p) [a] [] pos) (λenv=>(aC fa aH env).bind uR) :=
 kA A9 x w Z1K (aB t aW he) (λds d vs H fp Q e r q=>by
  unfold uR at e;split at e
  .split at e
   .rename_i j;cases e;obtain⟨v,rfl,f⟩:=gY r;obtain⟨p,ws,fp',rfl,h,n,u⟩:=cA f;refine⟨p,ws,rfl,.inl ⟨h,λl hl=>?_⟩⟩;obtain⟨o,i⟩:=Reps.flat _ _ _ j n;exact q _ _ [] (bU hl) (qO hl (i m)) (λb hb=>(by cases hb)) QaF
   .cases e
  .split at e
   .rename_i j;cases e;obtain⟨v,rfl,f⟩:=gY r;have y:=f;simp only[Rep]at f;obtain⟨p,ws,rfl,h,n⟩:=f;obtain⟨o,i⟩:=Rep.flat _ _ _ (by simpa only [PD.flat]using j) y;exact⟨p,ws,rfl,.inr ⟨h,q _ _ [] (Same.refl H) (i m) (λb hb=>(by cases hb)) QaF⟩⟩
   .cases e
  .cases e) (he:=he) (hpl:=hpl)
def Z8M:Ab D->Aa D
 |[.int i,.int j]=>some (.int (if j<i then j else i))
 |_=>none
def Z4D:Ab D->Aa D
 |[.int i,.int j]=>some (.int (if j > i then j else i))
 |_=>none
def Z9V{p:Pos}(h:X.calm=true)(n:Gl X "min")(l:X.mg "min" = none)(u:QA X m1 rs1 [a,b] fs)(he:starEach [a,b] X.env=(false,eval a X.env)::starEach [b] X.env:=by rfl)(hpl:(backTo pos (starEach [b] X.env)).any (·.1)=false:=by rfl) :
  QE X m rs (.Call (.Name "min" p) [a,b] [] pos) (λenv=>(fs env).bind Z8M) :=
 nW (Z4h h) n l Z6U u (λds d vs H fp Q e r q=>by
  unfold Z8M at e;split at e
  .rename_i i j;cases e;obtain⟨v,w,f,f',rfl,t,o,rfl⟩:=Z21 r;rw[bP t,bP o];exact⟨i,j,rfl,q _ _ [] (Same.refl H) fM (λb hb=>(by cases hb)) QaF⟩
  .cases e) (he:=he) (hpl:=hpl)
def Z5t{p:Pos}(h:X.calm=true)(n:Gl X "max")(l:X.mg "max" = none)(u:QA X m1 rs1 [a,b] fs)(he:starEach [a,b] X.env=(false,eval a X.env)::starEach [b] X.env:=by rfl)(hpl:(backTo pos (starEach [b] X.env)).any (·.1)=false:=by rfl) :
  QE X m rs (.Call (.Name "max" p) [a,b] [] pos) (λenv=>(fs env).bind Z4D) :=
 nW (Z4i h) n l Z6V u (λds d vs H fp Q e r q=>by
  unfold Z4D at e;split at e
  .rename_i i j;cases e;obtain⟨v,w,f,f',rfl,t,o,rfl⟩:=Z21 r;rw[bP t,bP o];exact⟨i,j,rfl,q _ _ [] (Same.refl H) fM (λb hb=>(by cases hb)) QaF⟩
  .cases e) (he:=he) (hpl:=hpl)
def Z0C:Ab D->Aa D
 |[.int i]=>some (.int i)
 |[.bl k]=>some (.int (if k then 1 else 0))
 |_=>none
def Z2h{p:Pos}(i:Gl X "int")(h:X.mg "int" = none)(j:QE X m1 rs1 a fa)(he:starEach [a] X.env=(false,eval a X.env)::starEach [] X.env:=by rfl)(hpl:(backTo pos (starEach [] X.env)).any (·.1)=false:=by rfl) :
  QE X m rs (.Call (.Name "int" p) [a] [] pos) (λenv=>(aC fa aH env).bind Z0C) :=
 kA Z4k i h Z0q (aB j aW he) (λds d vs H fp Q e r q=>by
  unfold Z0C at e;split at e
  .cases e;obtain⟨v,rfl,f⟩:=gY r;rw[bP f];exact .inl ⟨_,rfl,q _ _ [] (Same.refl H) fM (λb hb=>(by cases hb)) QaF⟩
  .cases e;obtain⟨v,rfl,f⟩:=gY r;rw[kF f];exact .inr ⟨_,rfl,q _ _ [] (Same.refl H) fM (λb hb=>(by cases hb)) QaF⟩
  .cases e) (he:=he) (hpl:=hpl)
section
variable {X:Cx}{m m1:Bool}{rs rs1:Ab Nat}{e a b c:Ag}{es:Ab Ag}{f fa fc:En->Aa D}{fs:En->Aa (Ab D)}{pos p:Pos}
def spD(K:Frag)(n:Nat)(f:Ab D->Aa D):Sp:=λvs H Q _=>∃ds d fp,ds.length=n/\Reps K false H ds vs fp/\f ds=some d/\∀v H' fp',Same H H'->Rep K true H' d v fp'->(∀b∈fp',H b=none)->fp'.Nodup->Q v H'
def Z7p{K:Frag}{n:Nat}{f:Ab D->Aa D}{vs:Ab V}{H:Hp}{Q:VK}{E:XK}(h:spD K n f vs H Q E):vs.length=n:=by
 obtain⟨ds,d,fp,h1,a,_⟩:=h;rw[a.length,h1]
def Z7X(G:iF X.prog X.w X.K X.mg X.base CX0 k fA fd ps (spD X.K n F'))(o:Room k X.A)(j:Gl X x)(i:X.mg x=some (.ref fA))(t:keepIn X.K (.ref fA)=true)
  (a:Binds X.K fd ps ds) (hd:Vals dvs ds) (h:∀H,Reps X.K false H dds dvs []) (l:QA X m1 rs1 (e::es) fs) (u:∀env xs,fs env=some xs->xs.length+dds.length=n)
  (f:nDb x:=by decide) (he:sEa e es X.env:=by rfl) (hpl:bTa pos es X.env:=by rfl) :
  QE X true [] (.Call (.Name x p) (e::es) [] pos) (λenv=>(fs env).bind λxs=>F' (xs++dds)) :=
 .mk (L2.pe_call G o j i t a hd Z2n l f he hpl) λσ H Q ⟨env,F,d,ok,e,q⟩=>by
  cases h1:fs env with
  |none=>simp only[h1]at e;cases e
  |some xs =>
   simp only[h1]at e;refine⟨env,F,xs,ok,h1,λvs H' fp s r c=>⟨xs++dds,d,fp++[],by rw[Qam];exact u env xs h1,(Reps.weak _ _ _ r).append (h H'),e,λv H2 fp' s2 r2 h2 nd=>q v H2 fp' (s.trans s2) r2 ⟨λb a=>.inl (s.free (h2 b a)),λ_=>⟨nd,λb a=>s.free (h2 b a)⟩⟩⟩⟩
theorem wR{K:Frag}{H:Hp}{nm:Str}:∀{ns:Ab Str}{ds:Ab D}{vs:Ab V}{fp:Ab Af}{d:D},Reps K m H ds vs fp->(ns.zip ds).lookup nm=some d->∃v f,(ns.zip vs).lookup nm=some v/\Rep K m H d v f/\∀b∈f,b∈fp
 |[],ds,vs,fp,d,r,e=>by cases e
 |n::ns,[],vs,fp,d,r,e=>by cases e
 |n::ns,d'::ds,vs,fp,d,r,e=>by
  simp only[Reps]at r;obtain⟨v,l,f1,o,rfl,rfl,h1,i⟩:=r;simp only[QbE,QaL]at e ⊢;cases hq:nm==n with
  |true =>
   rw[hq]at e;cases e;exact⟨v,f1,rfl,h1,λb hb=>Qaq _ hb⟩
  |false =>
   rw[hq]at e;obtain⟨w,f,a,h,j⟩:=wR i e;exact⟨w,f,a,h,λb hb=>Qag _ (j b hb)⟩
def gH(C:Af)(nm:Str)(fa:En->Aa D):En->Aa D:=λenv=>match fa env with
 |some (.obj C' ns ds)=>if C'=C then(ns.zip ds).lookup nm else none
 |_=>none
def eL(hc:Cls X.K C)(p:NoAttr X.K C nm)(l:QE X m1 rs a fa)(h:attributeBase a nm X.env (eval a X.env)=eval a X.env:=by rfl):QE X false rs (.Attribute a nm pos) (gH C nm fa) :=
 .mk (Za3 l h) λσ H Q ⟨env,F,d,ok,e,q⟩=>by
  unfold gH at e;split at e
  .rename_i o ns ds h1;split at e
   .rename_i x;subst x;refine⟨env,F,_,ok,h1,λv H' fp s r c=>?_⟩;simp only[Rep]at r;obtain⟨j,dx,vs,fp',rfl,rfl,y,_,A,i⟩:=r;obtain⟨w,f,u,t,n⟩:=wR i e;exact⟨j,o,dx,_,w,rfl,y,hc,p,u,q w H' f s (Rep.weak _ _ _ t) ⟨λb h=>c.1 b (Qab _ (Qab _ (n b h))),λz=>(by cases z)⟩⟩
   .cases e
  .cases e
def vR(K:Frag)(J:It)(H0:Hp)(ds:Ab D)(fp:Ab Af):Prop:=∀H,Kp fp H0 H->∀i,
 (∀d,ds[i]?=some d->J.go i H/\∀x H',J.yld i H x H'->Same H H'/\∃f,Rep K false H' d x f/\∀b∈f,b∈fp)/\(ds.length<=i->J.stop i H)
def tDI(K:Frag)(rs:Ab Nat)(f:En->Aa (Ab D)):TI:=λσ H R=>∃env F ds,EnvOk K H σ env F/\f env=some ds/\∀J H' fp,Same H H'->vR K J H' ds fp->(∀b∈fp,∃o,H' b=some o)->Cond F H false rs fp->R J H'
def QI(X:Cx)(tg:Ag)(rs:Ab Nat)(iter:Ag)(f:En->Aa (Ab D)):Prop:=PI X tg iter (tDI X.K rs f)
def QI.mk{tg iter:Ag}{a:TI}{f:En->Aa (Ab D)}(h:PI X tg iter a)(hi:∀σ H R,tDI X.K rs f σ H R->a σ H R):QI X tg rs iter f:=λpins s σ H R I q=>h pins s σ H R I (hi σ H R q)
def PI.or(h1:PI X tg iter w1)(a:PI X tg iter w2):PI X tg iter (λσ H R=>w1 σ H R\/w2 σ H R):=λpins s σ H R I q=>q.elim (h1 pins s σ H R I) (a pins s σ H R I)
def Z1n{K:Frag}{l:Hp}{ds:Ab D}{a:Af}{fp:Ab Af}(r:Rep K false l (.lst ds) (.ref a) fp):vR K (Itl K a) l ds fp:=λH k i=>by
 have o:=Rep.keep _ _ _ k r;obtain⟨p,vs,fp',e,h,n,j⟩:=cA o;cases e;refine⟨λd hd=>?_,λq=>⟨vs,h,by rw[n.length];exact q⟩⟩;obtain⟨v,f,h1,t,u,_⟩:=n.get hd;refine⟨⟨vs,v,h,h1⟩,λx H' y=>?_⟩;obtain⟨rfl,y⟩:=y;have:=y vs h;rw[h1]at this;cases this;exact⟨Same.refl _,f,t,λb hb=>j b (u b hb)⟩
def Z43{K:Frag}{j:Hp}{ds:Ab D}{a:Af}{fp:Ab Af}(r:Rep K false j (.tup ds) (.ref a) fp):vR K (Itt K a) j ds fp:=λH k i=>by
 have h:=Rep.keep _ _ _ k r;simp only[Rep]at h;obtain⟨p,vs,e,b,l⟩:=h;cases e;refine⟨λd hd=>?_,λn=>⟨vs,b,by rw[l.length];exact n⟩⟩;obtain⟨v,f,h1,o,q,_⟩:=l.get hd;refine⟨⟨vs,v,b,h1⟩,λx H' y=>?_⟩;obtain⟨rfl,y⟩:=y;have:=y vs b;rw[h1]at this;cases this;exact⟨Same.refl _,f,o,q⟩
def Z1o{K:Frag}{n:Hp}{ds:Ab D}{a:Af}{fp:Ab Af}(r:Rep K false n (.lst ds) (.ref a) fp):vR K (Ite K a) n (ds.mapIdx λi d=>.tup [.int i,d]) fp:=λH k i=>by
 have t:=Rep.keep _ _ _ k r;obtain⟨p,vs,fp',e,j,o,l⟩:=cA t;cases e;refine⟨λd hd=>?_,λu=>⟨vs,j,by rw[o.length];simpa using u⟩⟩;rw[List.getElem?_mapIdx]at hd;cases h:ds[i]? with
 |none=>rw[h]at hd;cases hd
 |some d' =>
  rw[h]at hd;cases hd;obtain⟨v,f,h1,A,B,_⟩:=o.get h;refine⟨⟨vs,v,j,h1⟩,λx H' y=>?_⟩;obtain⟨q,w,hq,rfl,y,rfl⟩:=y;have:=y vs j;rw[h1]at this;cases this;refine⟨bU hq,f,qO hq ?_,λb hb=>l b (B b hb)⟩;simp only[Reps];exact⟨.int i,[v],[],f,rfl,rfl,fM,v,[],f,[],rfl,by simp,A,rfl,rfl⟩
def vF{K:Frag}{h:Hp}(lo:Int)(n:Nat):vR K (Itr lo n) h ((List.range n).map λ(k:Nat)=>.int (lo+(k:Int))) []:=λH k i=>by
 refine⟨λd hd=>?_,λl=>(show n<=i by simpa using l)⟩;rw[QaA]at hd;cases a:(List.range n)[i]? with
 |none=>rw[a]at hd;cases hd
 |some j =>
  rw[a]at hd;cases hd;obtain⟨f,e⟩:=Qae.mp a;rw[List.getElem_range]at e;subst e;refine⟨(show i<n by simpa using f),λx H' y=>?_⟩;obtain⟨rfl,rfl⟩:=y;exact⟨Same.refl _,[],fM,λb hb=>hb⟩
def cR(fa:En->Aa D):En->Aa (Ab D):=λenv=>match fa env with
 |some (.lst ds)=>some ds
 |some (.tup ds)=>some ds
 |_=>none
def bX{tg:Ag}(h:QE X m1 rs a fa):QI X tg rs a (cR fa) :=
 .mk (PI.or (Z85 h) (Z9Z h)) λσ H R ⟨env,F,ds,ok,e,q⟩=>by
  unfold cR at e;split at e
  .rename_i i h1;cases e;refine .inl ⟨env,F,_,ok,h1,λv H' fp s r c=>?_⟩;have f:=Rep.weak _ _ _ r;obtain⟨p,vs,fp',rfl,b,n,l⟩:=cA r;exact⟨p,rfl,⟨vs,b⟩,q _ H' fp s (Z1n f) (Rep.dom _ _ _ r) ⟨c.1,λz=>(by cases z)⟩⟩
  .rename_i i h1;cases e;refine .inr ⟨env,F,_,ok,h1,λv H' fp s r c=>?_⟩;have f:=Rep.weak _ _ _ r;have j:=r;simp only[Rep]at j;obtain⟨p,vs,rfl,b,n⟩:=j;exact⟨p,rfl,⟨vs,b⟩,q _ H' fp s (Z43 f) (Rep.dom _ _ _ r) ⟨c.1,λz=>(by cases z)⟩⟩
  .cases e
def fR:Ab D->Aa (Ab D)
 |[.int j]=>if -(2^62)<=j/\j<2^62 then some ((List.range j.toNat).map λ(k:Nat)=>.int (0+(k:Int))) else none
 |_=>none
def eE{tg:Ag}{p:Pos}(i:Gl X "range")(h:X.mg "range" = none)(n:QA X m1 rs1 [a] fs)(hs:starEach [a] X.env=[(false,eval a X.env)]:=by rfl):QI X tg rs (.Call (.Name "range" p) [a] [] pos) (λenv=>(fs env).bind fR) :=
 .mk (Z3O i h n hs) λσ H R ⟨env,F,ds,ok,e,q⟩=>by
  cases h1:fs env with
  |none=>simp only[h1]at e;cases e
  |some xs =>
   simp only[h1,Qa3]at e;unfold fR at e;split at e
   .rename_i j;split at e
    .rename_i f;cases e;refine⟨env,F,_,ok,h1,λvs H' fp s r c=>?_⟩;obtain⟨v,rfl,l⟩:=gY r;rw[bP l];exact⟨j,rfl,f.1,f.2,q _ H' [] s (vF 0 _) (λb hb=>(by cases hb)) .nil⟩
    .cases e
   .cases e
def Z0A:Ab D->Aa (Ab D)
 |[.int i,.int j]=>if -(2^62)<=i/\i<2^62 /\ -(2^62)<=j/\j<2^62 then some ((List.range (j-i).toNat).map λ(k:Nat)=>.int (i+(k:Int))) else none
 |_=>none
def Z3I{tg:Ag}{p:Pos}(t:Gl X "range")(o:X.mg "range" = none)(l:QA X m1 rs1 [a,b] fs)(hs:starEach [a,b] X.env=[(false,eval a X.env),(false,eval b X.env)]:=by rfl)(h:starEach [b] X.env=[(false,eval b X.env)]:=by rfl):QI X tg rs (.Call (.Name "range" p) [a,b] [] pos) (λenv=>(fs env).bind Z0A) :=
 .mk (Z3N t o l hs h) λσ H R ⟨env,F,ds,ok,e,q⟩=>by
  cases h1:fs env with
  |none=>simp only[h1]at e;cases e
  |some xs =>
   simp only[h1,Qa3]at e;unfold Z0A at e;split at e
   .rename_i i j;split at e
    .rename_i n;cases e;refine⟨env,F,_,ok,h1,λvs H' fp s r c=>?_⟩;obtain⟨v,x,f,f',rfl,w,u,rfl⟩:=Z21 r;rw[bP w,bP u];exact⟨i,j,rfl,n,q _ H' [] s (vF i _) (λb hb=>(by cases hb)) .nil⟩
    .cases e
   .cases e
def J1:Ab D->Aa (Ab D)
 |[.lst ds]=>some (ds.mapIdx λi d=>.tup [.int i,d])
 |_=>none
def Z7Q{elts:Ab Ag}{k1:Nat}{tpos p:Pos}(n:Gl X "enumerate")(l:X.mg "enumerate" = none)(i:QA X m1 rs [a] fs)(hs:starEach [a] X.env=[(false,eval a X.env)]:=by rfl):QI X (.Tuple elts k1 tpos) rs (.Call (.Name "enumerate" p) [a] [] pos) (λenv=>(fs env).bind J1) :=
 .mk (Z86 n l i hs) λσ H R ⟨env,F,ds,ok,e,q⟩=>by
  cases h1:fs env with
  |none=>simp only[h1]at e;cases e
  |some xs =>
   simp only[h1,Qa3]at e;unfold J1 at e;split at e
   .cases e;refine⟨env,F,_,ok,h1,λvs H' fp s r c=>?_⟩;obtain⟨v,rfl,b⟩:=gY r;have h:=Rep.weak _ _ _ b;have o:=Rep.dom _ _ _ b;obtain⟨p,ws,fp',rfl,f,t,j⟩:=cA b;exact⟨p,rfl,⟨ws,f⟩,q _ H' fp s (Z1o h) o ⟨c.1,λz=>(by cases z)⟩⟩
   .cases e
def dM(fc:En->Aa Bool)(fe:En->Aa D)(env:En):Ab D->Aa (Ab D)
 |[]=>some []
 |d::r=>match fc (some (false,d)::env) with
  |some true=>match fe (some (false,d)::env),dM fc fe env r with
   |some y,some ys=>some (y::ys)
   |_,_=>none
  |some false=>dM fc fe env r
  |none=>none
def kQ(fr:Ab Nat)(env:En):En:=fr.map λj=>(env[j]?).join
def bL(fr:Ab Nat)(src:En->Aa (Ab D))(fc:En->Aa Bool)(fe:En->Aa D):En->Aa D:=λenv=>match src env with
 |some ds=>if ds.length<=1000 then(dM fc fe (kQ fr env) ds).map .lst else none
 |none=>none
def fTT:En->Aa Bool:=λ_=>some true
theorem nF{fc:En->Aa Bool}{fe:En->Aa D}{env:En}:∀{ds:Ab D}{ys:Ab D}{i:Nat}{d:D}{zs:Ab D},ds[i]?=some d->dM fc fe env ds=some ys->dM fc fe env (ds.take i)=some zs ->
  (fc (some (false,d)::env)=some true/\∃y,fe (some (false,d)::env)=some y/\dM fc fe env (ds.take (i+1))=some (zs++[y]))\/(fc (some (false,d)::env)=some false/\dM fc fe env (ds.take (i+1))=some zs)
 |[],ys,i,d,zs,h,_,_=>by simp at h
 |d'::ds,ys,0,d,zs,h,h1,h2=>by
  simp at h;subst h;simp only[List.take_zero,dM]at h2;cases h2;unfold dM at h1;simp only[Qa7,QbB,List.take_zero,dM];split at h1
  .rename_i hc;split at h1
   .rename_i y n e o;exact .inl ⟨hc,y,e,by simp[hc,e]⟩
   .cases h1
  .rename_i hc;exact .inr ⟨hc,by simp[hc]⟩
  .cases h1
 |d'::ds,ys,i+1,d,zs,h,h1,h2=>by
  have h':ds[i]?=some d:=by simpa using h
  unfold dM at h1;simp only[QbB]at h2 ⊢;unfold dM at h2;split at h1
  .rename_i hc;split at h1
   .rename_i y n e o;simp only[hc,e]at h2;cases l:dM fc fe env (ds.take i) with
    |none=>rw[l]at h2;cases h2
    |some z' =>
     rw[l]at h2;cases h2;rcases nF h' o l with⟨b,j,a,f⟩|⟨b,a⟩
     .exact .inl ⟨b,j,a,by unfold dM;simp[hc,e,f]⟩
     .exact .inr ⟨b,by unfold dM;simp[hc,e,a]⟩
   .cases h1
  .rename_i hc;simp only[hc]at h2;rcases nF h' h1 h2 with⟨b,j,a,f⟩|⟨b,a⟩
   .exact .inl ⟨b,j,a,by unfold dM;simp[hc,f]⟩
   .exact .inr ⟨b,by unfold dM;simp[hc,a]⟩
  .cases h1
theorem pW{fc:En->Aa Bool}{fe:En->Aa D}{env:En}:∀{ds ys:Ab D},dM fc fe env ds=some ys->ys.length<=ds.length
 |[],ys,h=>by simp only[dM]at h;cases h;exact Qan _
 |d::ds,ys,h=>by
  unfold dM at h;split at h
  .split at h
   .rename_i y b e a;cases h;simp only[Qaf];exact Nat.succ_le_succ (pW a)
   .cases h
  .exact Nat.le_succ_of_le (pW h)
  .cases h
end
def Z6F{K:Frag}{H:Hp}{σ:L2.St}{env:En}{F:Nat->Ab Af}{fr:Ab Nat}{d:D}{v:V}{f:Ab Af}(ok:EnvOk K H σ env F)(r:Rep K false H d v f) :
  ∃F',EnvOk K H ((jS 1 fr σ).set 0 (some v)) (some (false,d)::kQ fr env) F':=by
 refine⟨λi=>match i with|0=>f|i+1=>F (fr.getD i 0),λi o d' e=>?_⟩
 cases i with
 |zero =>
  simp at e;obtain⟨_,rfl⟩:=e;exact⟨v,by simp[jS],r⟩
 |succ i =>
  simp only[QaY,kQ,QaA]at e;cases a:fr[i]? with
  |none=>rw[a]at e;cases e
  |some j =>
   rw[a]at e;simp only[Qav,Qbv]at e;cases hq:env[j]? with
   |none=>rw[hq]at e;cases e
   |some s =>
    rw[hq]at e;simp only[QaN]at e;subst e;obtain⟨w,h1,b⟩:=ok j o d' hq;refine⟨w,?_,?_⟩
    .simp[jS,a,h1]
    .have:fr.getD i 0=j:=by simp[List.getD,a]
     simp only[this];exact b
def QTs(X:Cx)(ifs:Ab Ag)(f:En->Aa Bool):Prop:=PTs X ifs (tDT X.K f)
def cF:QTs X [] fTT:=λpins s σ H Q I ⟨env,F,b,ok,e,q⟩=>Z80 pins s σ H Q I (by cases e;exact q H (Same.refl H))
def wF(h:QT X c g):QTs X [c] g:=λpins s σ H Q I q=>Z7Z h pins s σ H Q I q
def G2{K:Frag}{σ:L2.St}{H:Hp}{Q:VK}(h:tD K true [] (bL fr src fc fe) σ H Q) :
  Z1W (tDI K rs src) 1 fr (F8 0) (tDT K fc) (tD K true [] fe) σ H Q:=by
 obtain⟨env,F,d,ok,e,q⟩:=h;unfold bL at e;cases h1:src env with
 |none=>rw[h1]at e;cases e
 |some ds =>
  rw[h1]at e;simp only at e;split at e
  .rename_i W;cases A:dM fc fe (kQ fr env) ds with
   |none=>rw[A]at e;cases e
   |some ys =>
    rw[A]at e;cases e;refine⟨env,F,ds,ok,h1,λJ H1 fp s1 gv dm cd=>?_⟩;intro j p;refine⟨λi k vs H2=>i<=ds.length/\k=ds.length-i/\H2 j=some (.lst vs)/\Same H1 H2/\∃zs f,dM fc fe (kQ fr env) (ds.take i)=some zs/\Reps K true H2 zs vs f/\f.Nodup/\(∀b∈f,H1 b=none)/\j∉f,
     ⟨ds.length,Qa2 _,rfl,bG,bU p,[],[],by simp[dM],by simp only[Reps];exact⟨trivial,trivial⟩,QaF,λb n=>(by cases n),by simp⟩,?_⟩
    rintro i k vs H2 ⟨hi,hk,ha,sm,zs,f,hz,hr,nd,hfr,hna⟩;refine⟨ha,?_⟩;have L:=gv H2 (Kp.same sm fp) i;by_cases y:i<ds.length
    .right;have hd:ds[i]?=some ds[i]:=Qaj y;obtain⟨X,T⟩:=L.1 _ hd;refine⟨X,λx H3 y3=>?_⟩;obtain⟨l,f3,S,_⟩:=T x H3 y3;refine⟨⟨by simp[jS],by simp[jS]⟩,?_⟩;have M:EnvOk K H3 σ env F:=ok.same ((s1.trans sm).trans l);obtain⟨G,r⟩:=Z6F (fr:=fr) M S;rcases nF hd A hz with⟨E,N,C,U⟩|⟨E,C⟩
     .refine⟨_,G,true,r,E,λH4 s4=>Z6 ⟨_,G,N,r.same s4,C,λv H5 fp5 s5 r5 c5=>?_⟩⟩;have w:Same H2 H5:=(l.trans s4).trans s5;have a0:Same H4 H5:=s5;have t:H5 j=some (.lst vs):=w _ _ ha;have u:j∉fp5:=λz=>by
       have:=(c5.2 rfl).2 j z;rw[(l.trans s4) _ _ ha]at this;cases this
      have R:vs.length<1000:=by
       have:=pW hz;have h4:=hr.length;rw[Qat]at this;omega
      refine⟨vs,t,iK (Qbe R),ds.length-(i+1),by omega,y,rfl,bG,?_,zs++[N],f++fp5,U,?_,?_,?_,?_⟩
      .intro b o n;have O:b≠j:=bO n p;rw[aY O];exact w _ _ (sm _ _ n)
      .have P:=Reps.keep _ _ _ (Kp.upd (o':=.lst (vs++[v])) t (by intro xs z;cases z) (by intro a b z;cases z) hna) (hr.same w);have Z:=Rep.keep _ _ _ (Kp.upd (o':=.lst (vs++[v])) t (by intro xs z;cases z) (by intro a b z;cases z) u) r5;exact P.snoc Z
      .refine Qau.mpr ⟨nd,(c5.2 rfl).1,λa ha' b n z=>?_⟩;obtain⟨o,Y⟩:=Reps.dom _ _ _ hr a ha';have:=(c5.2 rfl).2 b n;rw[<- z,(l.trans s4) _ _ Y]at this;cases this
      .intro b n;rcases Qai.mp n with z|z
       .exact hfr b z
       .exact((sm.trans l).trans s4).free ((c5.2 rfl).2 b z)
      .intro z;rcases Qai.mp z with z|z
       .exact hna z
       .exact u z
     .refine⟨_,G,false,r,E,λH4 s4=>Z7 ⟨ds.length-(i+1),vs,by omega,y,rfl,(l.trans s4) _ _ ha,(sm.trans l).trans s4,zs,f,C,hr.same (l.trans s4),nd,hfr,hna⟩⟩
    .left;have I:i=ds.length:=by omega
     refine⟨L.2 (by omega),?_⟩;have B:dM fc fe (kQ fr env) ds=some zs:=by rw[I,QaD]at hz;exact hz
     rw[A]at B;cases B;refine q _ H2 (j::f) (s1.trans sm) ?_ ⟨λb n=>?_,λ_=>⟨Qax.mpr ⟨hna,nd⟩,λb n=>?_⟩⟩
     .simp only[Rep];exact⟨j,vs,f,rfl,hr,.inl ⟨rfl,ha⟩⟩
     .rcases Qad.mp n with z|z
      .exact .inl (by rw[z];exact s1.free p)
      .exact .inl (s1.free (hfr b z))
     .rcases Qad.mp n with z|z
      .rw[z];exact s1.free p
      .exact s1.free (hfr b z)
  .cases e
def cQ(hc:X.calm=true)(e:gL X.env.scope X.N scope fr=true)(hi:QI X (.Name x px) rs iter src)
  (a:(eG [x] fr X.N).Nodup) (b:scope.names.lookup x=some .local)
  (f:∀cl C s0 H0 ex pins,QTs (eM X (eG [x] fr X.N) scope cl C s0 H0 ex pins) ifs fc)
  (he:∀cl C s0 H0 ex pins,QE (eM X (eG [x] fr X.N) scope cl C s0 H0 ex pins) true [] elt fe)
  (hs:∀x,foldedSetIterable iter X.env x=pure x:=by intro _;rfl) :
  QE X true [] (.ListComp elt [⟨.Name x px,iter,ifs,0⟩] scope pos) (bL fr src fc fe) :=
 .mk (Z2l (tgs:=[x]) (tt:=tDT X.K fc) (te:=tD X.K true [] fe) hc e hi (λcl C s0 H0 ex pins=>dH (i:=0) a rfl (.inl (lookup_relabel_local b)) (.inr (lookup_relabel_local b))) f he hs) λσ H Q h=>G2 h
structure EnvS(K:Frag)(P H:Hp)(σ:L2.St)(env:En)(F:Nat->List Addr):Prop where
 ok:EnvOk K H σ env F
 own:∀i d,env[i]?=some (some (true,d))->(F i).Nodup/\(∀b∈F i,P b=none)/\(∀v,σ[i]?=some (some v)->Rep K true H d v (F i))/\∀j s,j≠i->env[j]?=some (some s)->∀b∈F i,b∉F j
structure SInv(K:Frag)(P H:Hp)(σ:L2.St)(env:En):Prop where
 same:Same P H
 len:σ.length=env.length
 ex:∃F,EnvS K P H σ env F
theorem EnvS.dom{K:Frag}(h:EnvS K P H σ env F){i:Nat}{s:Bool×D}(e:env[i]?=some (some s)):∀b∈F i,∃o,H b=some o:=by
 obtain⟨o,d⟩:=s;obtain⟨v,_,r⟩:=h.ok i o d e;exact Rep.dom _ _ _ r
def EnvS.grow{K:Frag}(h:EnvS K P H σ env F)(s:Same H H'):EnvS K P H' σ env F :=
 ⟨h.ok.same s,λi d e=>let ⟨a,b,c,q⟩:=h.own i d e;⟨a,b,λv hv=>(c v hv).same s,q⟩⟩
theorem SInv.grow{K:Frag}(h:SInv K P H σ env)(s:Same H H'):SInv K P H' σ env :=
 ⟨h.same.trans s,h.len,let ⟨F,hF⟩:=h.ex;⟨F,hF.grow s⟩⟩
inductive Res where
 |next (env:En)|ret (d:D)|brk (env:En)|cont (env:En)|bad
def Post(K:Frag)(P:Hp)(E:T1):Res->Prop
 | .next env=>∀σ H,SInv K P H σ env->E.nx σ H
 | .ret d=>∀v H fp,Same P H->Rep K true H d v fp->(∀b∈fp,P b=none)->fp.Nodup->E.rt v H
 | .brk env=>∀σ H,SInv K P H σ env->E.bk σ H
 | .cont env=>∀σ H,SInv K P H σ env->E.ct σ H
 | .bad=>False
def tDS(K:Frag)(g:En->Res):TS:=λE σ H=>∃P env,SInv K P H σ env/\Post K P E (g env)
def QS(X:Cx)(st:Stmt)(g:En->Res):Prop:=PS X st (tDS X.K g)
def QSs(X:Cx)(st:Ab Stmt)(g:En->Res):Prop:=PSs X st (tDS X.K g)
def QS.mk{st:Stmt}(h:PS X st t)(hi:∀E σ H,tDS X.K g E σ H->t E σ H):QS X st g:=λpins s σ H E I q=>h pins s σ H E I (hi E σ H q)
def QSs.mk{st:Ab Stmt}(h:PSs X st t)(hi:∀E σ H,tDS X.K g E σ H->t E σ H):QSs X st g:=λpins s σ H E I q=>h pins s σ H E I (hi E σ H q)
def Z09(F:Nat->Ab Af)(i:Nat)(f:Ab Af):Nat->Ab Af:=λj=>if j=i then f else F j
def bS:Z09 F i f i=f:=if_pos rfl
def bA(h:j≠i):Z09 F i f j=F j:=if_neg h
def cN{l:Ab α}(h:i<l.length):(l.set i x)[j]?=if j=i then some x else l[j]?:=by
 by_cases e:j=i
 .subst e;rw[if_pos rfl,QaQ h]
 .rw[if_neg e,Qar (Ne.symm e)]
def pG{K:Frag}{P H H':Hp}(i:Nat)(x:Same P H)(A:σ.length=env.length)(h:EnvS K P H σ env F)(s:Same H H')(r:Rep K true H' d v fp)(y:fp.Nodup)(fr:∀b∈fp,H b=none) :
  SInv K P H' (σ.set i (some v)) (env.set i (some (true,d))):=by
 refine⟨x.trans s,by simp[A],Z09 F i fp,?_,?_⟩
 .intro j o d' e;by_cases hi:i<env.length
  .rw[cN hi]at e;by_cases a:j=i
   .subst a;rw[if_pos rfl]at e;cases e;exact⟨v,QaQ (by omega),by rw[bS];exact Rep.weak _ _ _ r⟩
   .rw[if_neg a]at e;obtain⟨w,h1,u⟩:=h.ok j o d' e;exact⟨w,by rw[Qar (Ne.symm a)];exact h1,by rw[bA a];exact u.same s⟩
  .rw[QaR (by omega)]at e;have a:j≠i:=λz=>by rw[z,Qay (by omega)]at e;cases e
   obtain⟨w,h1,u⟩:=h.ok j o d' e;exact⟨w,by rw[Qar (Ne.symm a)];exact h1,by rw[bA a];exact u.same s⟩
 .intro j d' e;by_cases hi:i<env.length
  .rw[cN hi]at e;by_cases a:j=i
   .subst a;rw[if_pos rfl]at e;cases e;refine⟨by rw[bS];exact y,λb hb=>?_,λw hw=>?_,λk s' hk ek b hb=>?_⟩
    .rw[bS]at hb;cases B:P b with
     |none=>rfl
     |some o=>have:=x _ _ B;rw[fr b hb]at this;cases this
    .rw[QaQ (by omega)]at hw;cases hw;rw[bS];exact r
    .rw[bS]at hb;rw[bA hk];rw[cN hi,if_neg hk]at ek;intro z;obtain⟨o,l⟩:=h.dom ek b z;rw[fr b hb]at l;cases l
   .rw[if_neg a]at e;obtain⟨t,p,n,q⟩:=h.own j d' e;refine⟨by rw[bA a];exact t,λb hb=>p b (by rw[bA a]at hb;exact hb),λw hw=>?_,λk s' hk ek b hb=>?_⟩
    .rw[Qar (Ne.symm a)]at hw;rw[bA a];exact(n w hw).same s
    .rw[bA a]at hb;rw[cN hi]at ek;by_cases f:k=i
     .subst f;rw[bS];intro z;obtain⟨o,l⟩:=h.dom e b hb;rw[fr b z]at l;cases l
     .rw[if_neg f]at ek;rw[bA f];exact q k s' hk ek b hb
  .rw[QaR (by omega)]at e;have a:j≠i:=λz=>by rw[z,Qay (by omega)]at e;cases e
   obtain⟨t,p,n,q⟩:=h.own j d' e;refine⟨by rw[bA a];exact t,λb hb=>p b (by rw[bA a]at hb;exact hb),λw hw=>?_,λk s' hk ek b hb=>?_⟩
   .rw[Qar (Ne.symm a)]at hw;rw[bA a];exact(n w hw).same s
   .rw[bA a]at hb;rw[QaR (by omega)]at ek;have f:k≠i:=λz=>by rw[z,Qay (by omega)]at ek;cases ek
    rw[bA f];exact q k s' hk ek b hb
def xC{K:Frag}{P H H':Hp}(i:Nat)(y:Same P H)(t:σ.length=env.length)(h:EnvS K P H σ env F)(s:Same H H')(r:Rep K false H' d v fp)
  (fr:∀j d',env[j]?=some (some (true,d'))->∀b∈F j,b∉fp):SInv K P H' (σ.set i (some v)) (env.set i (some (false,d))):=by
 refine⟨y.trans s,by simp[t],Z09 F i fp,?_,?_⟩
 .intro j o d' e;by_cases hi:i<env.length
  .rw[cN hi]at e;by_cases f:j=i
   .subst f;rw[if_pos rfl]at e;cases e;exact⟨v,QaQ (by omega),by rw[bS];exact r⟩
   .rw[if_neg f]at e;obtain⟨w,h1,n⟩:=h.ok j o d' e;exact⟨w,by rw[Qar (Ne.symm f)];exact h1,by rw[bA f];exact n.same s⟩
  .rw[QaR (by omega)]at e;have f:j≠i:=λz=>by rw[z,Qay (by omega)]at e;cases e
   obtain⟨w,h1,n⟩:=h.ok j o d' e;exact⟨w,by rw[Qar (Ne.symm f)];exact h1,by rw[bA f];exact n.same s⟩
 .intro j d' e;have a:j≠i:=by
   rintro rfl;by_cases hi:j<env.length
   .rw[cN hi,if_pos rfl]at e;cases e
   .rw[QaR (by omega),Qay (by omega)]at e;cases e
  rw[Qar (Ne.symm a)]at e;obtain⟨x,q,p,u⟩:=h.own j d' e;refine⟨by rw[bA a];exact x,λb hb=>q b (by rw[bA a]at hb;exact hb),λw hw=>?_,λk s' hk ek b hb=>?_⟩
  .rw[Qar (Ne.symm a)]at hw;rw[bA a];exact(p w hw).same s
  .rw[bA a]at hb;by_cases l:k=i
   .subst l;rw[bS];exact fr j d' e b hb
   .rw[Qar (Ne.symm l)]at ek;rw[bA l];exact u k s' hk ek b hb
def fz1(r:Nat)(env:En):En:=match env[r]? with
 |some (some (_,d))=>env.set r (some (false,d))
 |_=>env
def fz:Ab Nat->En->En
 |[],env=>env
 |r::rs,env=>fz rs (fz1 r env)
def Z8y:(fz1 r env).length=env.length:=by
 unfold fz1;split<;>simp
def Z2G:(fz1 r env)[j]?=if j=r then(env[j]?).map (Option.map λp=>(false,p.2)) else env[j]?:=by
 unfold fz1;split
 .rename_i o d h;have b:r<env.length:=(Qae.mp h).1;rw[cN b];by_cases a:j=r
  .subst a;simp[h]
  .simp[a]
 .rename_i h;by_cases a:j=r
  .subst a;rw[if_pos rfl];cases h1:env[j]? with
   |none=>rfl
   |some o =>
    cases o with
    |none=>rfl
    |some p=>exact absurd h1 (h p.1 p.2)
  .rw[if_neg a]
theorem EnvS.fz1{K:Frag}(r:Nat)(h:EnvS K P H σ env F):EnvS K P H σ (PD.fz1 r env) F:=by
 have back:∀{j:Nat}{o:Bool}{d:D},(PD.fz1 r env)[j]?=some (some (o,d))->∃o',env[j]?=some (some (o',d))/\(j=r->o=false)/\(j≠r->o'=o):=by
  intro j o d e;rw[Z2G]at e;by_cases a:j=r
  .rw[if_pos a]at e;cases h1:env[j]? with
   |none=>rw[h1]at e;cases e
   |some s =>
    cases s with
    |none=>rw[h1]at e;cases e
    |some p =>
     rw[h1]at e;cases e;exact⟨p.1,rfl,λ_=>rfl,λz=>absurd a z⟩
  .rw[if_neg a]at e;exact⟨o,e,λz=>absurd z a,λ_=>rfl⟩
 refine⟨λj o d e=>?_,λj d e=>?_⟩
 .obtain⟨o',h1,_⟩:=back e;exact h.ok j o' d h1
 .obtain⟨o',h1,t,u⟩:=back e;have a:j≠r:=λz=>by cases t z
  have:=u a;subst this;obtain⟨n,l,i,q⟩:=h.own j d h1;refine⟨n,l,i,λk s hk ek b hb=>?_⟩;obtain⟨w,v⟩:=s;obtain⟨x,f,_⟩:=back ek;exact q k _ hk f b hb
theorem EnvS.fz{K:Frag}:∀(rs:Ab Nat) {env:En},EnvS K P H σ env F->EnvS K P H σ (PD.fz rs env) F
 |[],_,h=>h
 |r::rs,_,h=>EnvS.fz rs (h.fz1 r)
theorem yX:∀(rs:Ab Nat) {env:En},(fz rs env).length=env.length
 |[],_=>rfl
 |r::rs,env=>by show(fz rs (fz1 r env)).length=_;rw[yX rs,Z8y]
theorem Z6w:∀(rs:Ab Nat) {env:En}{j:Nat}{d:D},(fz rs env)[j]?=some (some (true,d))->j∉rs/\env[j]?=some (some (true,d))
 |[],env,j,d,e=>⟨by simp,e⟩
 |r::rs,env,j,d,e=>by
  obtain⟨h1,a⟩:=Z6w rs (env:=fz1 r env) e;rw[Z2G]at a;by_cases b:j=r
  .rw[if_pos b]at a;cases f:env[j]? with
   |none=>rw[f]at a;cases a
   |some s =>
    cases s with
    |none=>rw[f]at a;cases a
    |some p=>rw[f]at a;cases a
  .rw[if_neg b]at a;exact⟨by simp[b,h1],a⟩
def nrm(env:En)(F:Nat->Ab Af):Nat->Ab Af:=λi=>match env[i]? with|some (some _)=>F i|_=>[]
def oC(h:env[i]?=some (some s)):nrm env F i=F i:=by unfold nrm;rw[h]
def N5(h:b∈nrm env F i):∃s,env[i]?=some (some s):=by
 unfold nrm at h;split at h
 .rename_i s e;exact⟨s,e⟩
 .cases h
theorem EnvS.nrm{K:Frag}(h:EnvS K P H σ env F):EnvS K P H σ env (PD.nrm env F):=by
 refine⟨λi o d e=>by rw[oC e];exact h.ok i o d e,λi d e=>?_⟩;obtain⟨b,l,a,f⟩:=h.own i d e;rw[oC e];exact⟨b,l,a,λj s hj ej=>by rw[oC ej];exact f j s hj ej⟩
section
variable {X:Cx}{m m1 m2:Bool}{rs rs1 rs2:Ab Nat}{e a b c:Ag}{f fc:En->Aa D}{c':En->Aa Bool}{pos p pos':Pos}{st:Stmt}{sts:Ab Stmt}{g h:En->Res}{i:Nat}{x:Str}
def aM(g h:En->Res):En->Res:=λenv=>match g env with
 | .next env'=>h env'
 |r=>r
def bF:En->Res:=.next
def aR:QSs X [] bF:=.mk Z2k λE σ H ⟨P,env,I,q⟩=>q σ H I
def aF(h1:QS X st g)(b:QSs X sts h):QSs X (st::sts) (aM g h):=.mk (nY h1 b) λE σ H ⟨P,env,I,q⟩=>by
 refine⟨P,env,I,?_⟩;unfold aM at q;cases a:g env with
 |next env'=>rw[a]at q;exact λσ' H' I'=>⟨P,env',I',q⟩
 |ret d=>rw[a]at q;exact q
 |brk _=>rw[a]at q;exact q
 |cont _=>rw[a]at q;exact q
 |bad=>rw[a]at q;exact q
def aG(h1:QS X st g):QSs X [st] g:=.mk (wJ h1) λE σ H q=>q
def iL:En->Res:=λ_=>.bad
def bY:QS X st iL:=.mk Z5E λE σ H ⟨P,env,I,q⟩=>q.elim
def rIf(c:En->Aa Bool)(g h:En->Res):En->Res:=λenv=>match c env with
 |some true=>g env
 |some false=>h env
 |none=>.bad
def bN(hc:QT X c c')(a:QSs X sa g)(b:QSs X sb h):QS X (.If c sa sb pos) (rIf c' g h):=.mk (Z93 hc a b) λE σ H ⟨P,env,I,q⟩=>by
 obtain⟨F,hF⟩:=I.ex;unfold rIf at q;split at q
 .rename_i h1;exact⟨env,F,true,hF.ok,h1,λH' s=>Z6 ⟨P,env,I.grow s,q⟩⟩
 .rename_i h1;exact⟨env,F,false,hF.ok,h1,λH' s=>Z7 ⟨P,env,I.grow s,q⟩⟩
 .exact q.elim
def bQ(f:En->Aa D):En->Res:=λenv=>match f env with
 |some d=>.ret d
 |none=>.bad
def aQ(he:QE X true [] e f):QS X (.Return (some e) pos) (bQ f):=.mk (M8 he) λE σ H ⟨P,env,I,q⟩=>by
 obtain⟨F,hF⟩:=I.ex;unfold bQ at q;split at q
 .rename_i d h1;refine⟨env,F,d,hF.ok,h1,λv H' fp s r c=>q v H' fp (I.same.trans s) r (λb hb=>?_) (c.2 rfl).1⟩;cases a:P b with
  |none=>rfl
  |some o=>have:=I.same _ _ a;rw[(c.2 rfl).2 b hb]at this;cases this
 .exact q.elim
def hU(f:X.N[i]?=some x:=by rfl)(j:Vis X.env.scope x:=by first|exact Or.inl rfl|exact Or.inr (Or.inl rfl)|exact Or.inr (Or.inr rfl))(hd:nDb x:=by decide)(b:(x==("__classdict__" : Str))=false:=by decide) :
  QS X (.Return (some (.Name x p)) pos) (λenv=>match env[i]? with|some (some (true,d))=>.ret d|_=>.bad):=.mk (M8 (jG f j hd b)) λE σ H ⟨P,env,I,q⟩=>by
 obtain⟨F,hF⟩:=I.ex;simp only at q;split at q
 .rename_i d h1;obtain⟨v,a,_⟩:=hF.ok i true d h1;obtain⟨e,h,l,_⟩:=hF.own i d h1;exact⟨v,a,q v H _ I.same (l v a) h e⟩
 .exact q.elim
def bJ(i:Nat)(f:En->Aa D):En->Res:=λenv=>match f env with
 |some d=>.next (env.set i (some (true,d)))
 |none=>.bad
def tF{K:Frag}(h:tDS K (bJ i f) E σ H):Z0O (tD K true [] f) (F8 i) E σ H:=by
 obtain⟨P,env,I,q⟩:=h;obtain⟨F,hF⟩:=I.ex;unfold bJ at q;split at q
 .rename_i d h1;exact⟨env,F,d,hF.ok,h1,λv H' fp s r c=>q _ H' (pG i I.same I.len hF s r (c.2 rfl).1 (c.2 rfl).2)⟩
 .exact q.elim
def Z9Q(h:X.N.Nodup)(hi:X.N[i]?=some x)(a:Loc X.env.scope x)(he:QE X true [] e f)(hs:swapsWith e (some (.Name x pos')) pos.line X.env=pure false:=by rfl)(b:X.fn x=true\/X.env.scope.names.lookup x=some .local:=by first|exact .inl rfl|exact .inr rfl|assumption) :
  QS X (.Assign [.Name x pos'] e pos) (bJ i f):=.mk (M7 h hi a he hs b) λE σ H q=>tF q
def iM{fc:En->Aa Bool}
  (hc:X.calm=true) (o:X.N.Nodup) (h:X.N[i]?=some x) (a:Loc X.env.scope x) (j:gL X.env.scope X.N scope fr=true) (hi:QI X (.Name y px) rs iter src)
  (e:(eG [y] fr X.N).Nodup) (f:scope.names.lookup y=some .local)
  (n:∀cl C s0 H0 ex pins,QTs (eM X (eG [y] fr X.N) scope cl C s0 H0 ex pins) ifs fc)
  (he:∀cl C s0 H0 ex pins,QE (eM X (eG [y] fr X.N) scope cl C s0 H0 ex pins) true [] elt fe)
  (b:swapsWith (.ListComp elt [⟨.Name y px,iter,ifs,0⟩] scope pos) (some (.Name x pos')) spos.line X.env=pure true:=by rfl)
  (l:X.fn x=true\/X.env.scope.names.lookup x=some .local:=by first|exact .inl rfl|exact .inr rfl|assumption)
  (hs:∀x,foldedSetIterable iter X.env x=pure x:=by intro _;rfl) :
  QS X (.Assign [.Name x pos'] (.ListComp elt [⟨.Name y px,iter,ifs,0⟩] scope pos) spos) (bJ i (bL fr src fc fe)) :=
 .mk (yB (tgs:=[y]) (tt:=tDT X.K fc) (te:=tD X.K true [] fe) hc o h a j hi (λcl C s0 H0 ex pins=>dH (i:=0) e rfl (.inl (lookup_relabel_local f)) (.inr (lookup_relabel_local f))) n he b l hs)
  λE σ H q=>G2 (tF q)
def Z5f(i:Nat)(rs:Ab Nat)(f:En->Aa D):En->Res:=λenv=>match f env with
 |some d=>.next ((fz rs env).set i (some (false,d)))
 |none=>.bad
def rL{K:Frag}(hF:EnvS K P H σ env F)(c:Cond (nrm env F) H m rs fp):∀j d',(fz rs env)[j]?=some (some (true,d'))->∀b∈nrm env F j,b∉fp:=by
 intro j d' e b h z;obtain⟨h1,f⟩:=Z6w rs e;rcases c.1 b z with y|⟨r,hr,y⟩
 .obtain⟨o,a⟩:=hF.nrm.dom f b h;rw[y]at a;cases a
 .obtain⟨s,hs⟩:=N5 y;exact(hF.nrm.own j d' f).2.2.2 r s (λz=>h1 (z ▸ hr)) hs b h y
def Z7M(b:X.N.Nodup)(hi:X.N[i]?=some x)(h:Loc X.env.scope x)(he:QE X m rs e f)(hs:swapsWith e (some (.Name x pos')) pos.line X.env=pure false:=by rfl)(a:X.fn x=true\/X.env.scope.names.lookup x=some .local:=by first|exact .inl rfl|exact .inr rfl|assumption) :
  QS X (.Assign [.Name x pos'] e pos) (Z5f i rs f):=.mk (M7 b hi h he hs a) λE σ H ⟨P,env,I,q⟩=>by
 obtain⟨F,hF⟩:=I.ex;unfold Z5f at q;split at q
 .rename_i d h1;refine⟨env,nrm env F,d,hF.nrm.ok,h1,λv H' fp s r c=>q _ H' (xC i I.same (by rw[yX];exact I.len) (hF.nrm.fz rs) s (Rep.weak _ _ _ r) (rL hF c))⟩
 .exact q.elim
def fU(i:Nat)(f:En->Aa D):En->Res:=λenv=>match f env,env[i]? with
 |some d,some (some (true,.lst ds))=>if ds.length<=1000 then .next (env.set i (some (true,.lst (ds++[d])))) else .bad
 |_,_=>.bad
def C3{K:Frag}{a:Af}(S:Same P H)(N:σ.length=env.length)(h:EnvS K P H σ env F)(q:env[i]?=some (some (true,.lst ds)))
  (I:σ[i]?=some (some (.ref a))) (hF:F i=a::fp') (L:H a=some (.lst vs)) (r:Reps K true H ds' vs' fp2) (E:(a::fp2).Nodup) (p:∀b∈fp2,b∈fp'\/(P b=none/\∀j s,env[j]?=some (some s)->b∉F j)) :
  SInv K P (upd H a (.lst vs')) σ (env.set i (some (true,.lst ds'))):=by
 have hi:i<env.length:=(Qae.mp q).1;obtain⟨T,C,U,t⟩:=h.own i _ q;have l:a∈F i:=by rw[hF];exact Qah
 have A:∀{fp:Ab Af},a∉fp->Kp fp H (upd H a (.lst vs')):=λp=>Kp.upd L (by intro xs z;cases z) (by intro x u z;cases z) p;have Q:a∉fp2:=(Qax.mp E).1;have v:∀st,Rep K st (upd H a (.lst vs')) (.lst ds') (.ref a) (a::fp2):=λst=>by
  have G:=Reps.keep _ _ _ (A Q) r;cases st with
  |true=>simp only[Rep];exact⟨a,vs',fp2,rfl,G,.inl ⟨rfl,bG⟩⟩
  |false=>simp only[Rep];exact⟨a,vs',fp2,rfl,Reps.weak _ _ _ G,.inl ⟨rfl,bG⟩⟩
 refine⟨λb o e=>?_,by simp[N],Z09 F i (a::fp2),λj o d e=>?_,λj d e=>?_⟩
 .have:b≠a:=λz=>by have:=C a l;rw[z,this]at e;cases e
  rw[aY this];exact S _ _ e
 .rw[cN hi]at e;by_cases f:j=i
  .subst f;rw[if_pos rfl]at e;cases e;exact⟨_,I,by rw[bS];exact v false⟩
  .rw[if_neg f]at e;obtain⟨w,h1,R⟩:=h.ok j o d e;exact⟨w,h1,by rw[bA f];exact Rep.keep _ _ _ (A (t j _ f e a l)) R⟩
 .rw[cN hi]at e;by_cases f:j=i
  .subst f;rw[if_pos rfl]at e;cases e;refine⟨by rw[bS];exact E,λb hb=>?_,λw hw=>?_,λk s hk ek b hb=>?_⟩
   .rw[bS]at hb;rcases Qad.mp hb with z|z
    .rw[z];exact C a l
    .rcases p b z with y|y
     .exact C b (by rw[hF];exact Qab _ y)
     .exact y.1
   .rw[I]at hw;cases hw;rw[bS];exact v true
   .rw[bS]at hb;rw[bA hk];rw[cN hi,if_neg hk]at ek;rcases Qad.mp hb with z|z
    .rw[z];exact t k s hk ek a l
    .rcases p b z with y|y
     .exact t k s hk ek b (by rw[hF];exact Qab _ y)
     .exact y.2 k s ek
  .rw[if_neg f]at e;obtain⟨O,J,M,B⟩:=h.own j d e;refine⟨by rw[bA f];exact O,λb hb=>J b (by rw[bA f]at hb;exact hb),λw hw=>by rw[bA f];exact Rep.keep _ _ _ (A (t j _ f e a l)) (M w hw),λk s hk ek b hb=>?_⟩;rw[bA f]at hb;rw[cN hi]at ek;by_cases n:k=i
   .subst n;rw[bS];intro z;rcases Qad.mp z with z|z
    .exact B k _ hk q b hb (by rw[z];exact l)
    .rcases p b z with y|y
     .exact B k _ hk q b hb (by rw[hF];exact Qab _ y)
     .exact y.2 j _ e hb
   .rw[if_neg n]at ek;rw[bA n];exact B k s hk ek b hb
def Z3E(S:X.N[i]?=some x)(T:Vis X.env.scope x)(he:QE X true [] e f)(hd:nDb x:=by decide)(M:(x==("__classdict__" : Str))=false:=by decide)
  (O:starEach [e] X.env=(false,eval e X.env)::starEach [] X.env:=by rfl)
  (hpe:PE X (.Call (.Attribute (.Name x p) "append" apos) [e] [] cpos) (tBM X.K "list" L5 (wZ i) (Z4R (tD X.K true [] f) Z7l)))
  (hs:swapsWith (.Call (.Attribute (.Name x p) "append" apos) [e] [] cpos) none pos.line X.env=pure false:=by rfl) :
  QS X (.Expr (.Call (.Attribute (.Name x p) "append" apos) [e] [] cpos) pos) (fU i f):=.mk (M9 hpe hs) λE σ H ⟨P,env,I,q⟩=>by
 obtain⟨F,hF⟩:=I.ex;unfold fU at q;split at q
 .rename_i d ds h1 A;split at q
  .rename_i C;obtain⟨v,h,_⟩:=hF.ok i true _ A;obtain⟨B,R,J,Q⟩:=hF.own i _ A;obtain⟨a,vs,fp',rfl,n,u,w⟩:=hG (J v h);refine⟨.ref a,h,.inl ⟨rfl,vs,SqL.of u⟩,env,F,d,hF.ok,h1,λv' H' fp s r c=>?_⟩;have t:=s _ _ u;refine⟨a,vs,v',rfl,rfl,t,iK (by rw[w.length];exact C),q _ _ ?_⟩;refine C3 (fp2:=fp'++fp) (I.same.trans s) I.len (hF.grow s) A h n t ((w.same s).snoc r) ?_ ?_
   .rw[n]at B;obtain⟨L,G⟩:=Qax.mp B;refine Qax.mpr ⟨λz=>?_,Qau.mpr ⟨G,(c.2 rfl).1,λb y b' hb' z=>?_⟩⟩
    .rcases Qai.mp z with z|z
     .exact L z
     .have:=(c.2 rfl).2 a z;rw[u]at this;cases this
    .obtain⟨o,l⟩:=Reps.dom _ _ _ w b y;have:=(c.2 rfl).2 b' hb';rw[<- z,l]at this;cases this
   .intro b y;rcases Qai.mp y with z|z
    .exact .inl z
    .refine .inr ⟨I.same.free ((c.2 rfl).2 b z),λj s' ej hz=>?_⟩;obtain⟨o,l⟩:=hF.dom ej b hz;rw[(c.2 rfl).2 b z]at l;cases l
  .exact q.elim
 .exact q.elim
def W7(i:Nat)(fk f:En->Aa D):En->Res:=λenv=>match f env,fk env,env[i]? with
 |some d,some (.int k),some (some (true,.lst ds))=>match ixN ds.length k with
  |some j=>if flats ds=true/\flat d=true then .next (env.set i (some (true,.lst (ds.set j d)))) else .bad
  |none=>.bad
 |_,_,_=>.bad
theorem Reps.set{K:Frag}:∀{ds:Ab D}{vs:Ab V}{d:D}{v:V}(j:Nat),Reps K true H ds vs []->Rep K true H d v []->Reps K true H (ds.set j d) (vs.set j v) []
 |[],vs,d,v,j,r,_=>by simp only[Reps]at r;obtain⟨rfl,_⟩:=r;simp only[List.set_nil,Reps];exact⟨trivial,trivial⟩
 |d'::ds,vs,d,v,0,r,r'=>by
  simp only[Reps]at r;obtain⟨w,us,f1,b,rfl,e,h1,a⟩:=r;obtain⟨rfl,rfl⟩:=List.append_eq_nil_iff.mp e.symm;simp only[List.set_cons_zero,Reps];exact⟨v,us,[],[],rfl,rfl,r',a⟩
 |d'::ds,vs,d,v,j+1,r,r'=>by
  simp only[Reps]at r;obtain⟨w,us,f1,b,rfl,e,h1,a⟩:=r;obtain⟨rfl,rfl⟩:=List.append_eq_nil_iff.mp e.symm;simp only[List.set_cons_succ,Reps];exact⟨w,us.set j v,[],[],rfl,rfl,h1,Reps.set j a r'⟩
def Z9R(Q:X.N[i]?=some x)(T:Vis X.env.scope x)(he:QE X m1 rs1 e f)(W:QE X m2 rs2 k fk)(hd:nDb x:=by decide)(M:(x==("__classdict__" : Str))=false:=by decide)
  (hps:PS X (.Assign [.Subscript (.Name x p) k spos] e pos) (Z0O (tD X.K m1 rs1 f) (Zai (wZ i) (tD X.K m2 rs2 fk) Z5g))) :
  QS X (.Assign [.Subscript (.Name x p) k spos] e pos) (W7 i fk f):=.mk hps λE σ H ⟨P,env,I,q⟩=>by
 obtain⟨F,hF⟩:=I.ex;unfold W7 at q;split at q
 .rename_i d u ds h1 J o;split at q
  .rename_i j G;split at q
   .rename_i l;obtain⟨v,h,_⟩:=hF.ok i true _ o;obtain⟨S,U,L,O⟩:=hF.own i _ o;obtain⟨a,vs,fp',rfl,r,B,t⟩:=hG (L v h);refine⟨env,F,d,hF.ok,h1,λv' H1 fp s1 r1 c1=>⟨.ref a,h,env,F,_,hF.ok.same s1,J,λw H2 f2 s2 r2 c2=>?_⟩⟩;rw[bP r2];have n:=(s1.trans s2) _ _ B;refine⟨a,vs,u,j,rfl,rfl,n,by rw[t.length];exact G,q _ _ ?_⟩;obtain⟨y,A⟩:=Reps.flat _ _ _ l.1 t;obtain⟨R,C⟩:=Rep.flat _ _ _ l.2 (r1.same s2);subst y;refine C3 (fp2:=[]) (I.same.trans (s1.trans s2)) I.len (hF.grow (s1.trans s2)) o h r n (Reps.set j ((A true).same (s1.trans s2)) (C true)) (by simp) (λb hb=>(by cases hb))
   .exact q.elim
  .exact q.elim
 .exact q.elim
end
mutual
theorem Rep.kind{K:Frag}{st:Bool}{H:Hp}:∀(d:D) (v:V) (fp:Ab Af),Rep K st H d v fp->∀b∈fp,(∀xs,H b≠some (.tup xs))/\∀o u,H b≠some (.frz o u)
 | .non,v,fp,h,b,hb=>by simp only[Rep]at h;rw[h.2]at hb;cases hb
 | .bl _,v,fp,h,b,hb=>by simp only[Rep]at h;rw[h.2]at hb;cases hb
 | .int _,v,fp,h,b,hb=>by simp only[Rep]at h;rw[h.2]at hb;cases hb
 | .str _,v,fp,h,b,hb=>by simp only[Rep]at h;rw[h.2]at hb;cases hb
 | .tup ds,v,fp,h,b,hb=>by
  simp only[Rep]at h;obtain⟨a,vs,e,hs,hr⟩:=h;exact Reps.kind ds vs fp hr b hb
 | .lst ds,v,fp,h,b,hb=>by
  simp only[Rep]at h;obtain⟨a,vs,fp',e,hr,hs⟩:=h;rcases hs with⟨rfl,hs⟩|⟨_,rfl,hs⟩
  .rcases Qad.mp hb with z|z
   .exact⟨λxs q=>(by rw[z,hs]at q;cases q),λo u q=>(by rw[z,hs]at q;cases q)⟩
   .exact Reps.kind ds vs fp' hr b z
  .exact Reps.kind ds vs fp hr b hb
 | .obj C ns ds,v,fp,h,b,hb=>by
  simp only[Rep]at h;obtain⟨a,dx,vs,fp',e,rfl,hs,hd,hl,hr⟩:=h;rcases Qad.mp hb with z|z
  .exact⟨λxs q=>(by rw[z,hs]at q;cases q),λo u q=>(by rw[z,hs]at q;cases q)⟩
  .rcases Qad.mp z with z|z
   .exact⟨λxs q=>(by rw[z,hd]at q;cases q),λo u q=>(by rw[z,hd]at q;cases q)⟩
   .exact Reps.kind ds vs fp' hr b z
 | .dk ks ds,v,fp,h,b,hb=>by
  simp only[Rep]at h;obtain⟨a,vs,fp',e,rfl,hs,hl,hr⟩:=h;rcases Qad.mp hb with z|z
  .exact⟨λxs q=>(by rw[z,hs]at q;cases q),λo u q=>(by rw[z,hs]at q;cases q)⟩
  .exact Reps.kind ds vs fp' hr b z
 | .dt ks ds,v,fp,h,b,hb=>by
  simp only[Rep]at h;obtain⟨a,es,ep,vs,fp',e,hk,hv,ht,hr,hs⟩:=h;rcases hs with⟨rfl,hs⟩|⟨_,rfl,o,hs⟩
  .rcases Qad.mp hb with z|z
   .exact⟨λxs q=>(by rw[z,hs]at q;cases q),λo u q=>(by rw[z,hs]at q;cases q)⟩
   .exact Reps.kind ds vs fp' hr b z
  .exact Reps.kind ds vs fp hr b hb
 | .exc C,v,fp,h,b,hb=>by
  simp only[Rep]at h;obtain⟨a,e,rfl,hs⟩:=h;rw[QaS.mp hb];exact⟨λxs q=>(by rw[hs]at q;cases q),λo u q=>(by rw[hs]at q;cases q)⟩
 | .fn a vs ds,v,fp,h,b,hb=>by
  simp only[Rep]at h;exact Reps.kind ds vs fp h.2 b hb
theorem Reps.kind{K:Frag}{st:Bool}{H:Hp}:∀(ds:Ab D) (vs:Ab V) (fp:Ab Af),Reps K st H ds vs fp->∀b∈fp,(∀xs,H b≠some (.tup xs))/\∀o u,H b≠some (.frz o u)
 |[],vs,fp,h,b,hb=>by simp only[Reps]at h;rw[h.2]at hb;cases hb
 |d::ds,vs,fp,h,b,hb=>by
  simp only[Reps]at h;obtain⟨v,r,f1,f2,e1,rfl,h1,h2⟩:=h;rcases Qai.mp hb with z|z
  .exact Rep.kind d v f1 h1 b z
  .exact Reps.kind ds r f2 h2 b z
end
def SInv.lower{K:Frag}{P f H:Hp}{σ:L2.St}{env:En}(s:Same P f)(h:SInv K f H σ env):SInv K P H σ env :=
 ⟨s.trans h.same,h.len,let ⟨F,hF⟩:=h.ex;⟨F,hF.ok,λi d e=>let ⟨a,b,c,q⟩:=hF.own i d e;⟨a,λx hx=>s.free (b x hx),c,q⟩⟩⟩
def Z3a{K:Frag}{P H:Hp}{σ:L2.St}{env:En}{F:Nat->Ab Af}{d:D}{v:V}{fp:Ab Af}(i:Nat)(x:σ.length=env.length)(h:EnvS K P H σ env F)(r:Rep K false H d v fp)
  (fr:∀j d',env[j]?=some (some (true,d'))->∀b∈F j,b∉fp):EnvS K P H (σ.set i (some v)) (env.set i (some (false,d))) (Z09 F i fp):=by
 refine⟨?_,?_⟩
 .intro j o d' e;by_cases hi:i<env.length
  .rw[cN hi]at e;by_cases f:j=i
   .subst f;rw[if_pos rfl]at e;cases e;exact⟨v,QaQ (by omega),by rw[bS];exact r⟩
   .rw[if_neg f]at e;obtain⟨w,h1,n⟩:=h.ok j o d' e;exact⟨w,by rw[Qar (Ne.symm f)];exact h1,by rw[bA f];exact n⟩
  .rw[QaR (by omega)]at e;have f:j≠i:=λz=>by rw[z,Qay (by omega)]at e;cases e
   obtain⟨w,h1,n⟩:=h.ok j o d' e;exact⟨w,by rw[Qar (Ne.symm f)];exact h1,by rw[bA f];exact n⟩
 .intro j d' e;have a:j≠i:=by
   rintro rfl;by_cases hi:j<env.length
   .rw[cN hi,if_pos rfl]at e;cases e
   .rw[QaR (by omega),Qay (by omega)]at e;cases e
  rw[Qar (Ne.symm a)]at e;obtain⟨u,q,p,t⟩:=h.own j d' e;refine⟨by rw[bA a];exact u,λb hb=>q b (by rw[bA a]at hb;exact hb),λw hw=>?_,λk s' hk ek b hb=>?_⟩
  .rw[Qar (Ne.symm a)]at hw;rw[bA a];exact p w hw
  .rw[bA a]at hb;by_cases l:k=i
   .subst l;rw[bS];exact fr j d' e b hb
   .rw[Qar (Ne.symm l)]at ek;rw[bA l];exact t k s' hk ek b hb
def tDG(K:Frag)(t:D->En->Aa En):TG:=λv σ H Q=>∃P env F d fp env',Same P H/\σ.length=env.length/\EnvS K P H σ env F/\Rep K false H d v fp/\(∀j d',env[j]?=some (some (true,d'))->∀b∈F j,b∉fp)/\t d env=some env' /\
 ∀σ',SInv K P H σ' env'->Q σ' H
def QG(X:Cx)(tg:Ag)(t:D->En->Aa En):Prop:=PG X tg (tDG X.K t)
def QG.mk(h:PG X tg g)(hi:∀v σ H Q,tDG X.K t v σ H Q->g v σ H Q):QG X tg t:=λpins s σ H v u Q I r q=>h pins s σ H v u Q I r (hi v σ H Q q)
def gtN(i:Nat):D->En->Aa En:=λd env=>some (env.set i (some (false,d)))
def jF:Ab Nat->Ab D->En->Aa En
 |[],[],env=>some env
 |i::is,d::ds,env=>jF is ds (env.set i (some (false,d)))
 |_,_,_=>none
def gtT(is:Ab Nat):D->En->Aa En:=λd env=>match d with
 | .tup ds=>jF is ds env
 |_=>none
def P6:Ab Nat->TGs
 |[]=>Zbr
 |i::is=>Z9b (F8 i) (P6 is)
theorem xK:∀{is:Ab Nat}{ds:Ab D}{env env':En},jF is ds env=some env'->is.length=ds.length
 |[],[],_,_,_=>rfl
 |i::is,d::ds,env,env',h=>by simp only[jF]at h;simp[xK h]
 |[],_::_,_,_,h=>by simp[jF]at h
 |_::_,[],_,_,h=>by simp[jF]at h
theorem yH{K:Frag}{P H:Hp}{Q:L2.St->Hp->Prop}:∀{is:Ab Nat}{ds:Ab D}{vs:Ab V}{fp:Ab Af}{σ:L2.St}{env env':En}{F:Nat->Ab Af},Same P H->σ.length=env.length->EnvS K P H σ env F->Reps K false H ds vs fp ->
  (∀j d',env[j]?=some (some (true,d'))->∀b∈F j,b∉fp)->jF is ds env=some env'->(∀σ',SInv K P H σ' env'->Q σ' H)->P6 is vs σ H Q
 |[],[],vs,fp,σ,env,env',F,sm,hl,h,r,fr,e,q=>by
  simp only[Reps]at r;simp only[jF]at e;cases e;exact⟨r.1,q σ ⟨sm,hl,F,h⟩⟩
 |i::is,d::ds,vs,fp,σ,env,env',F,sm,hl,h,r,fr,e,q=>by
  simp only[Reps]at r;obtain⟨v,us,f1,n,rfl,rfl,l,f⟩:=r;simp only[jF]at e;refine⟨v,us,rfl,?_⟩;have h':=Z3a i hl h l λj d' ej b hb z=>fr j d' ej b hb (Qaq _ z);refine yH (is:=is) (ds:=ds) sm (by simp[hl]) h' f (λj d' ej b hb z=>?_) e q;have a:j≠i:=by
   rintro rfl;by_cases hi:j<env.length
   .rw[cN hi,if_pos rfl]at ej;cases ej
   .rw[QaR (by omega),Qay (by omega)]at ej;cases ej
  rw[Qar (Ne.symm a)]at ej;rw[bA a]at hb;exact fr j d' ej b hb (Qag _ z)
 |[],_::_,_,_,_,_,_,_,_,_,_,_,_,h,_=>by simp[jF]at h
 |_::_,[],_,_,_,_,_,_,_,_,_,_,_,h,_=>by simp[jF]at h
section
variable {X:Cx}{m:Bool}{rs:Ab Nat}{e a b c iter tg:Ag}{es:Ab Ag}{f:En->Aa D}{pos:Pos}{body:Ab Stmt}{g h:En->Res}{i:Nat}{x:Str}{src:En->Aa (Ab D)}{t:D->En->Aa En}
def Z7R(b:X.N.Nodup)(hi:X.N[i]?=some x)(f:Loc X.env.scope x)(a:X.fn x=true\/X.env.scope.names.lookup x=some .local:=by first|exact .inl rfl|exact .inr rfl|assumption):QG X (.Name x pos) (gtN i) :=
 .mk (dH b hi f a) λv σ H Q ⟨P,env,F,d,fp,env',sm,hl,hF,r,fr,e,q⟩=>by
  cases e;exact q _ (xC i sm hl hF (Same.refl H) r fr)
def xY(hc:X.calm=true)(h:PGs X es (P6 is))(f:is.length=n)(o:(assignEach es X.env).length=n:=by rfl)(l:(assignEach es X.env).findIdx? (·.1)=none:=by rfl):QG X (.Tuple es k pos) (gtT is) :=
 .mk (Z17 hc h o l) λv σ H Q ⟨P,env,F,d,fp,env',sm,hl,hF,r,fr,e,q⟩=>by
  cases d with
  |tup ds =>
   simp only[Rep]at r;obtain⟨a,vs,rfl,j,i⟩:=r;have b:jF is ds env=some env':=e;exact⟨a,vs,rfl,j,by rw[i.length,<- xK b,f],yH sm hl hF i fr b q⟩
  |_=>cases e
def Z5e(rs:Ab Nat)(t:D->En->Aa En)(f:En->Aa D):En->Res:=λenv=>match f env with
 |some d=>match t d (fz rs env) with
  |some env'=>.next env'
  |none=>.bad
 |none=>.bad
def Z9P(he:QE X m rs e f)(h:QG X tg t)(hs:swapsWithSole [tg] e pos.line X.env=pure false:=by rfl)(hw:swappedStores [tg] e X.env=pure none:=by rfl)
  (hps:PS X (.Assign [tg] e pos) (Z0O (tD X.K m rs f) (tDG X.K t))):QS X (.Assign [tg] e pos) (Z5e rs t f):=.mk hps λE σ H ⟨P,env,I,q⟩=>by
 obtain⟨F,hF⟩:=I.ex;unfold Z5e at q;split at q
 .rename_i d h1;split at q
  .rename_i a b;refine⟨env,nrm env F,d,hF.nrm.ok,h1,λv H' fp s r c=>⟨P,fz rs env,nrm env F,d,fp,a,I.same.trans s,by rw[yX];exact I.len,(hF.nrm.fz rs).grow s,Rep.weak _ _ _ r,rL hF c,b,λσ' I'=>q σ' H' I'⟩⟩
  .exact q.elim
 .exact q.elim
def oV(t:D->En->Aa En)(g:En->Res):Ab D->En->Res
 |[],env=>.next env
 |d::r,env=>match t d env with
  |none=>.bad
  |some env1=>match g env1 with
   | .next e=>oV t g r e
   | .cont e=>oV t g r e
   | .brk e=>.next e
   | .ret d=>.ret d
   | .bad=>.bad
def eQ(rs:Ab Nat)(src:En->Aa (Ab D))(t:D->En->Aa En)(g:En->Res):En->Res:=λenv=>match src env with
 |some ds=>oV t g ds (fz rs env)
 |none=>.bad
open Classical in
def dA(hc:X.calm=true)(hp:PassesOwn (model X.prog X.w) X.A X.env X.xe)(hi:QI X tg rs iter src)(l:QG X tg t)(a:QSs X body g)(hs:∀x,foldedSetIterable iter X.env x=pure x:=by intro _;rfl) :
  QS X (.For tg iter body [] pos) (eQ rs src t g):=.mk (Z5F hp hc hi l a hs) λE σ H ⟨P,env,I,q⟩=>by
 obtain⟨F,hF⟩:=I.ex;unfold eQ at q;split at q
 .rename_i ds h1;refine⟨env,nrm env F,ds,hF.nrm.ok,h1,λJ H1 fp s1 gv dm cd=>?_⟩;have ap:=rL hF cd
  let O:Af->Prop:=λb=>∃j d,(fz rs env)[j]?=some (some (true,d))/\b∈nrm env F j
  let h:Hp:=λb=>if O b then none else H1 b
  have y:EnvS X.K P H1 σ (fz rs env) (nrm env F):=(hF.nrm.fz rs).grow s1;have p:∀b,O b->(∀xs,H1 b≠some (.tup xs))/\∀o u,H1 b≠some (.frz o u):=λb ⟨j,d,e,a⟩=>by
   obtain⟨v,hv,r⟩:=y.ok j true d e;exact Rep.kind _ _ _ r b a
  have pn:∀{b:Af},¬O b->h b=H1 b:=λhn=>if_neg hn;have po:∀{b:Af},O b->h b=none:=λf=>if_pos f;have a0:Same h H1:=λb o e=>by
   by_cases f:O b
   .rw[po f]at e;cases e
   .rw[pn f]at e;exact e
  have M:Same P h:=λb o e=>by
   have f:¬O b:=λ⟨j,d,C,a⟩=>by
    have:=(y.own j d C).2.1 b a;rw[this]at e;cases e
   rw[pn f];exact s1 _ _ (I.same _ _ e)
  have R:∀b∈fp,¬O b:=λb a ⟨j,d,C,hb'⟩=>ap j d C b hb' a;have kp:∀{n:Hp},Same h n->Kp fp H1 n:=λT=>⟨λb a o e=>T _ _ (by rw[pn (R b a)];exact e),
   λb xs e=>T _ _ (by rw[pn (λf=>(p b f).1 _ e)];exact e),
   λb o u e=>T _ _ (by rw[pn (λf=>(p b f).2 _ _ e)];exact e)⟩
  refine⟨λi k σ' H'=>i<=ds.length/\k=ds.length-i/\∃env',SInv X.K h H' σ' env'/\Post X.K P E (oV t g (ds.drop i) env'),
   ⟨ds.length,Qa2 _,rfl,fz rs env,⟨a0,by rw[yX];exact I.len,nrm env F,y.ok,λj d e=>?_⟩,by simpa using q⟩,?_⟩
  .obtain⟨a1,a2,a3,a4⟩:=y.own j d e;exact⟨a1,λb a=>po ⟨j,d,e,a⟩,a3,a4⟩
  .rintro i k σ' H' ⟨hi,hk,env',I',q'⟩;have W:=gv H' (kp I'.same) i;by_cases L:i<ds.length
   .right;have hd:ds[i]?=some ds[i]:=Qaj L;obtain⟨go,hy⟩:=W.1 _ hd;have N:ds.drop i=ds[i]::ds.drop (i+1):=List.drop_eq_getElem_cons L;rw[N]at q';refine⟨go,λσ2 n=>∃env2,SInv X.K h n σ2 env2/\Post X.K P E (oV t g (ds.drop (i+1)) env2),λσ2 n ⟨env2,G,q2⟩=>⟨ds.length-(i+1),by omega,L,rfl,env2,G,q2⟩,λx n y2=>?_⟩;obtain⟨Z,f2,r2,B⟩:=hy x n y2;unfold oV at q';cases S:t ds[i] env' with
    |none=>rw[S]at q';exact q'.elim
    |some env1 =>
     rw[S]at q';simp only at q';have G:=I'.grow Z;obtain⟨F2,Q⟩:=G.ex;refine⟨h,env',F2,_,f2,env1,G.same,G.len,Q,r2,λj d' C b a z=>?_,S,λσ3 I3=>⟨h,env1,I3,?_⟩⟩
     .have Y:=(Q.own j d' C).2.1 b a;rw[pn (R b (B b z))]at Y;obtain⟨o,ho⟩:=dm b (B b z);rw[Y]at ho;cases ho
     .cases l:g env1 with
      |next e2=>rw[l]at q';exact λσ4 H4 I4=>⟨e2,I4,q'⟩
      |cont e2=>rw[l]at q';exact λσ4 H4 I4=>⟨e2,I4,q'⟩
      |brk e2=>rw[l]at q';exact λσ4 H4 I4=>q' σ4 H4 (I4.lower M)
      |ret d=>rw[l]at q';exact λv H4 fp4 s4 r4 n4 nd4=>q' v H4 fp4 (M.trans s4) r4 (λb a=>M.free (n4 b a)) nd4
      |bad=>rw[l]at q';exact q'.elim
   .left;have U:i=ds.length:=by omega
    rw[U,List.drop_length]at q';exact⟨W.2 (by omega),q' σ' H' (I'.lower M)⟩
 .exact q.elim
end
def enStart(L:Nat)(ds:Ab D):En:=ds.map (λd=>some (false,d))++List.replicate (L-ds.length) none
def runF(L:Nat)(g:En->Res):Ab D->Aa D:=λds=>match g (enStart L ds) with
 | .ret d=>some d
 | .next _=>some .non
 |_=>none
theorem L1{K:Frag}{H:Hp}{st:Bool}:∀{ds:Ab D}{vs:Ab V}{fp:Ab Af},Reps K st H ds vs fp->∃F:Nat->Ab Af,∀i d,ds[i]?=some d->∃v,vs[i]?=some v/\Rep K st H d v (F i)
 |[],vs,fp,_=>⟨λ_=>[],λi d e=>by simp at e⟩
 |d::ds,vs,fp,r=>by
  simp only[Reps]at r;obtain⟨v,us,f1,h,rfl,rfl,b,a⟩:=r;obtain⟨F,hF⟩:=L1 a;refine⟨λi=>match i with|0=>f1|i+1=>F i,λi d' e=>?_⟩
  cases i with
  |zero=>simp at e;subst e;exact⟨v,rfl,b⟩
  |succ i =>
   obtain⟨w,h1,f⟩:=hF i d' (by simpa using e);exact⟨w,by simpa using h1,f⟩
def xI{K:Frag}{H:Hp}{N:Ab Str}{ds:Ab D}{vs:Ab V}{fp:Ab Af}(r:Reps K false H ds vs fp):SInv K H H (L2.start N vs) (enStart N.length ds):=by
 obtain⟨F,hF⟩:=L1 r;refine⟨Same.refl H,by simp[L2.start,enStart,r.length],F,λi o d e=>?_,λi d e=>?_⟩
 .unfold enStart at e;by_cases hi:i<ds.length
  .rw[QaH (by simpa using hi),QaA]at e;cases hd:ds[i]? with
   |none=>rw[hd]at e;cases e
   |some d' =>
    rw[hd]at e;cases e;obtain⟨v,h1,a⟩:=hF i d hd;refine⟨v,?_,a⟩;unfold L2.start;rw[QaH (by rw[Qaa,r.length];exact hi),QaA,h1];rfl
  .rw[QaW (by simpa using hi),Qbi]at e;split at e<;>cases e
 .unfold enStart at e;by_cases hi:i<ds.length
  .rw[QaH (by simpa using hi),QaA]at e;cases hd:ds[i]? with
   |none=>rw[hd]at e;cases e
   |some d'=>rw[hd]at e;cases e
  .rw[QaW (by simpa using hi),Qbi]at e;split at e<;>cases e
structure FunD(K:Frag)(x qual:Str)(st:Stmt)(f:Addr)(fd:FuncData):Prop where
 ex:∃(oc:Ad) (od:Aa Af) (dV kV doc pm:Ad) (an:Aa Af) (cdv ct:Ad) (osl:Ae (Aa Ad)),
  fd=fnOf x qual (dY st) (cO st) (aT st) dV kV doc pm an cdv ct/\K.lookup f=some ⟨oc,od,.func fd,osl⟩/\codeIn K cdv qual=true
 kp:keepIn K (.ref f)=true
def sB{K:Frag}{x a:Str}{st:Stmt}{f:Af}{o:Ad}{n an:Aa Af}{h:Ae (Aa Ad)}{i kV e j b ct:Ad}(l:K.lookup f=some ⟨o,n,.func (fnOf x a (dY st) (cO st) (aT st) i kV e j an b ct),h⟩)
  (c:codeIn K b a=true) (k:keepIn K (.ref f)=true):FunD K x a st f (fnOf x a (dY st) (cO st) (aT st) i kV e j an b ct) :=
 ⟨⟨o,n,i,kV,e,j,an,b,ct,h,rfl,l,c⟩,k⟩
def FunD.ok{P:Aj}{w:Ak}{K:Frag}{mg:Str->Aa Ad}{base:Ah}{x e:Str}{st:Stmt}{f:Af}{fd:FuncData}{N ps:Ab Str}{k n L:Nat}{g:En->Res}(F:FunD K x e st f fd)(S:gN N ps (aT st))(u:ps.length=n)(t:N.length=L)
  (l:∀(i:Ad) (A:Ai) (outer:Ab Env) (s:Ac) (H:Hp) (E:XK),Room k (A.deeper (envOfC e (aT st) s.heap.objs.size f i))->QSs (uK CX0 P w K mg base N e (aT st) f i A outer s H E).nox (cO st) g) :
  iF P w K mg base CX0 (k+1) f fd ps (spD K n (runF L g)):=by
 subst u t;obtain⟨G,J,M,kV,C,I,an,i,ct,B,rfl,p,o⟩:=F.ex;refine Z6y p o S (λvs H Q E h=>Z7p h) λA outer s H vs Q E hr hsp=>?_;obtain⟨ds,d,fp,h1,y,a,q⟩:=hsp;have hq:=l i A outer s H E hr;refine⟨_,PSs.nox hq,H,enStart N.length ds,xI y,?_⟩;unfold runF at a;cases j:g (enStart N.length ds) with
 |ret d' =>
  rw[j]at a;cases a;exact λv H' fp' s r fr nd=>q v H' fp' s r fr nd
 |next env' =>
  rw[j]at a;cases a;exact λσ' H' I'=>q .non H' [] I'.same tM (λb l=>(by cases l)) QaF
 |brk _=>rw[j]at a;cases a
 |cont _=>rw[j]at a;cases a
 |bad=>rw[j]at a;cases a
open PySem PySem.Spec PyProof.Rows L2 PySem.SeqAt
def eqL(f:D->D->Aa Bool):Ab D->Ab D->Aa Bool
 |x::xs,y::ys=>match f x y,eqL f xs ys with
  |some a,some b=>some (a&&b)
  |_,_=>none
 |_,_=>some true
def eqN:Nat->D->D->Aa Bool
 |0,_,_=>none
 |_+1,.non,.non=>some true
 |_+1,.bl a,.bl b=>some (a==b)
 |_+1,.int a,.int b=>some (a==b)
 |_+1,.str a,.str b=>some (a==b)
 |_+1,.non,.int _=>some false
 |_+1,.non,.str _=>some false
 |_+1,.int _,.non=>some false
 |_+1,.str _,.non=>some false
 |_+1,.int _,.str _=>some false
 |_+1,.str _,.int _=>some false
 |n+1,.tup xs,.tup ys=>(eqL (eqN n) xs ys).map (· && xs.length==ys.length)
 |_+1,.tup _,.non=>some false
 |_+1,.non,.tup _=>some false
 |n+1,.lst xs,.lst ys=>if xs.length=ys.length then eqL (eqN n) xs ys else some false
 |_+1,.lst _,.non=>some false
 |_+1,.non,.lst _=>some false
 |_,_,_=>none
theorem zF:∀{xs ys:Ab D}{k:Bool},eqL f xs ys=some k->∃e:Nat->Bool,(∀j x y,xs[j]?=some x->ys[j]?=some y->f x y=some (e j))/\(List.range (min xs.length ys.length)).all e=k
 |[],ys,k,h=>by simp only[eqL]at h;cases h;exact⟨λ_=>true,λj x y h=>by simp at h,by simp⟩
 |x::xs,[],k,h=>by simp only[eqL]at h;cases h;exact⟨λ_=>true,λj x y _ h=>by simp at h,by simp⟩
 |x::xs,y::ys,k,h=>by
  simp only[eqL]at h;split at h
  .rename_i a b h1 n;cases h;obtain⟨e,i,l⟩:=zF n;refine⟨λj=>match j with|0=>a|j+1=>e j,λj x' y' e1 e2=>?_,?_⟩
   .cases j with
    |zero=>simp at e1 e2;subst e1 e2;exact h1
    |succ j=>exact i j x' y' (by simpa using e1) (by simpa using e2)
   .simp only[Qaf,Nat.succ_min_succ,List.range_succ_eq_map,List.all_cons,List.all_map];rw[<- l];congr 1
  .cases h
def Z22(I:Inv X pins σ H s):∀(n:Nat) (a b:D) (v:V) (f1 l:Ab Af) (k:Bool),Rep X.K st1 H a v f1->Rep X.K st2 H b v l->eqN n a b=some k->k=true:=by
 intro n
 induction n with
 |zero=>intro a b v f1 l k _ _ e;simp[eqN]at e
 |succ n ih =>
  have r:∀(xs ys:Ab D) (vs:Ab V) (f1 l:Ab Af) (k:Bool),Reps X.K st1 H xs vs f1->Reps X.K st2 H ys vs l->eqL (eqN n) xs ys=some k->k=true:=by
   intro xs
   induction xs with
   |nil=>intro ys vs f1 l k _ _ e;simp only[eqL]at e;cases e;rfl
   |cons x xs ihx =>
    intro ys vs f1 l k t w e;cases ys with
    |nil=>simp only[eqL]at e;cases e;rfl
    |cons y ys =>
     simp only[Reps]at t w;obtain⟨v,us,P,N,rfl,_,G,E⟩:=t;obtain⟨O,M,R,Q,o,_,L,F⟩:=w;cases o;simp only[eqL]at e;split at e
     .rename_i c d h1 J;cases e;rw[ih _ _ _ _ _ _ G L h1,ihx _ _ _ _ _ E F J];rfl
     .cases e
  intro a b v f1 l k f i e;cases a<;>cases b<;>simp only[eqN,Rep]at f i e<;>try (cases e;done)
  all_goals first
   |(cases e;rfl)
   |(obtain⟨rfl,_⟩:=f;obtain⟨h,_⟩:=i;cases h;cases e;simp;done)
   |(obtain⟨rfl,_⟩:=f;obtain⟨h,_⟩:=i;cases h;done)
   |(obtain⟨rfl,_⟩:=f;obtain⟨_,_,h,_⟩:=i;cases h;done)
   |(obtain⟨rfl,_⟩:=f;obtain⟨_,_,_,h,_⟩:=i;cases h;done)
   |(obtain⟨rfl,_⟩:=i;obtain⟨_,_,h,_⟩:=f;cases h;done)
   |(obtain⟨rfl,_⟩:=i;obtain⟨_,_,_,h,_⟩:=f;cases h;done)
   |skip
  .-- tuples
   rename_i xs ys;obtain⟨a,vs,rfl,hs,p⟩:=f;obtain⟨C,u,o,q,j⟩:=i;cases o;obtain rfl:=I.tuple_inj hs q;cases hq:eqL (eqN n) xs ys with
   |none=>rw[hq]at e;cases e
   |some c =>
    rw[hq]at e;cases e;have:=r _ _ _ _ _ _ p j hq;subst this;have l1:=p.length;have l2:=j.length;simp[<- l1,<- l2]
  .rename_i xs ys;have A:Rep X.K st1 H (.lst xs) v f1:=by simp only[Rep];exact f
   have B:Rep X.K st2 H (.lst ys) v l:=by simp only[Rep];exact i
   obtain⟨a,vs,fp',rfl,hs,p,_⟩:=cA A;obtain⟨C,u,fp2,o,q,j,_⟩:=cA B;cases o;obtain rfl:=I.list_inj hs q;have l1:=p.length;have l2:=j.length;rw[if_pos (by rw[<- l1,<- l2])]at e;exact r _ _ _ _ _ _ p j e
def uA(A:Ai):A.in1.units=A.units+1:=rfl
def Z6B(I:Inv X pins σ H s):∀(n:Nat) (A:Ai) (a b:D) (v u:V) (r l:Ad) (f1 Y:Ab Af) (k:Bool),A.units+n<=cLine->Rep X.K st1 H a v f1->Rep X.K st2 H b u Y->RelV v r->RelV u l->eqN n a b=some k ->
  EqAt A s r l k/\RcAt A s r l k/\RcNeAt A s r l (!k):=by
 intro n
 induction n with
 |zero=>intro A a b v u r l f1 Y k _ _ _ _ _ e;simp[eqN]at e
 |succ n ih =>
  intro A a b v u r l f1 Y k hu F o M q e;have f:A.units<cLine:=by omega
  have E:∀{xs ys:Ab D}{vs us:Ab V}{its h:Ab Ad}{G L:Ab Af}{Q:Nat->Bool},Reps X.K st1 H xs vs G->Reps X.K st2 H ys us L->Vals vs its->Vals us h->(∀j x y,xs[j]?=some x->ys[j]?=some y->eqN n x y=some (Q j)) ->
    ∀j (h1:j<its.toArray.size) (h2:j<h.toArray.size),EqAt A.in1 s its.toArray[j] h.toArray[j] (Q j):=by
   intro xs ys vs us its h G L Q Z r2 w1 w2 he j h1 h2;have l1:=Z.length;have l2:=r2.length;have S:=w1.length;have T:=w2.length;have j1:j<xs.length:=by simp at h1;omega
   have j2:j<ys.length:=by simp at h2;omega
   obtain⟨v1,_,a1,a2,_⟩:=Z.get (Qaj j1);obtain⟨v2,_,b1,b2,_⟩:=r2.get (Qaj j2);obtain⟨u1,c1,c2⟩:=w1.get a1;obtain⟨u2,d1,d2⟩:=w2.get b1;have e1:its.toArray[j]=u1:=by have:=Qae.mp c1;obtain⟨_,z⟩:=this;simpa using z
   have e2:h.toArray[j]=u2:=by have:=Qae.mp d1;obtain⟨_,z⟩:=this;simpa using z
   rw[e1,e2];exact(ih A.in1 _ _ _ _ _ _ _ _ _ (by rw[uA];omega) a2 b2 c2 d2 (he j _ _ (Qaj j1) (Qaj j2))).1
  cases a with
  |non =>
   have hv:v=.non:=fN F;subst hv;cases (show r=Value.none from M)
   cases b with
   |non =>
    cases fN o;cases (show l=Value.none from q)
    simp only[eqN]at e;cases e;exact⟨EqAt.same _,RcAt.none_none,RcNeAt.none_none⟩
   |int i =>
    cases bP o;obtain⟨t,rfl⟩:=(show ∃t,l=Value.int i t from q)
    simp only[eqN]at e;cases e;exact⟨EqAt.none_int _ _,RcAt.none_int _ _,RcNeAt.none_int _ _⟩
   |str i =>
    cases dD o;obtain⟨t,rfl⟩:=(show ∃t,l=Value.str i t from q)
    simp only[eqN]at e;cases e;exact⟨EqAt.none_str _ _,RcAt.none_str _ _,RcNeAt.none_str _ _⟩
   |tup ys =>
    simp only[Rep]at o;obtain⟨p,us,rfl,hs,C⟩:=o;cases (show l=Value.ref p from q)
    obtain⟨its,w1,pl,_⟩:=I.tuple hs;simp only[eqN]at e;cases e;exact⟨EqAt.none_tuple pl f,RcAt.none_tuple pl f,RcNeAt.none_tuple pl f⟩
   |lst ys =>
    obtain⟨p,us,_,rfl,hs,C,_⟩:=cA o;cases (show l=Value.ref p from q)
    obtain⟨its,w1,pl,_⟩:=I.list hs;simp only[eqN]at e;cases e;exact⟨EqAt.none_list pl.isList f,RcAt.none_list pl.isList f,RcNeAt.none_list pl.isList f⟩
   |_=>simp only[eqN]at e;cases e
  |bl x =>
   cases kF F;cases (show r=Value.bool x from M)
   cases b with
   |bl y =>
    cases kF o;cases (show l=Value.bool y from q)
    simp only[eqN]at e;cases e;exact⟨EqAt.bool_bool _ _,RcAt.bool_bool _ _,RcNeAt.bool_bool _ _⟩
   |_=>simp only[eqN]at e;cases e
  |int x =>
   cases bP F;obtain⟨t,rfl⟩:=(show ∃t,r=Value.int x t from M)
   cases b with
   |int y =>
    cases bP o;obtain⟨t',rfl⟩:=(show ∃t,l=Value.int y t from q)
    simp only[eqN]at e;cases e;exact⟨EqAt.int_int _ _ _ _,RcAt.int_int _ _ _ _,RcNeAt.int_int _ _ _ _⟩
   |non =>
    cases fN o;cases (show l=Value.none from q)
    simp only[eqN]at e;cases e;exact⟨EqAt.int_none _ _,RcAt.int_none _ _,RcNeAt.int_none _ _⟩
   |str y =>
    cases dD o;obtain⟨t',rfl⟩:=(show ∃t,l=Value.str y t from q)
    simp only[eqN]at e;cases e;exact⟨EqAt.int_str _ _ _ _,RcAt.int_str _ _ _ _,RcNeAt.int_str _ _ _ _⟩
   |_=>simp only[eqN]at e;cases e
  |str x =>
   cases dD F;obtain⟨t,rfl⟩:=(show ∃t,r=Value.str x t from M)
   cases b with
   |int y =>
    cases bP o;obtain⟨t',rfl⟩:=(show ∃t,l=Value.int y t from q)
    simp only[eqN]at e;cases e;exact⟨EqAt.str_int _ _ _ _,RcAt.str_int _ _ _ _,RcNeAt.str_int _ _ _ _⟩
   |non =>
    cases fN o;cases (show l=Value.none from q)
    simp only[eqN]at e;cases e;exact⟨EqAt.str_none _ _,RcAt.str_none _ _,RcNeAt.str_none _ _⟩
   |str y =>
    cases dD o;obtain⟨t',rfl⟩:=(show ∃t,l=Value.str y t from q)
    simp only[eqN]at e;cases e;exact⟨EqAt.str_str _ _ _ _,RcAt.str_str _ _ _ _,RcNeAt.str_str _ _ _ _⟩
   |_=>simp only[eqN]at e;cases e
  |tup xs =>
   have ra':=F;simp only[Rep]at F;obtain⟨p,vs,rfl,hs,C⟩:=F;cases (show r=Value.ref p from M)
   obtain⟨its,w1,pl,_⟩:=I.tuple hs;cases b with
   |non =>
    cases fN o;cases (show l=Value.none from q)
    simp only[eqN]at e;cases e;exact⟨EqAt.tuple_none pl f,RcAt.tuple_none pl f,RcNeAt.tuple_none pl f⟩
   |tup ys =>
    have a0:=o;simp only[Rep]at o;obtain⟨J,us,rfl,O,w⟩:=o;cases (show l=Value.ref J from q)
    obtain⟨h,w2,B,_⟩:=I.tuple O;have W:=e;simp only[eqN]at e;cases hq:eqL (eqN n) xs ys with
    |none=>rw[hq]at e;cases e
    |some c =>
     rw[hq]at e;cases e;obtain⟨Q,G,L⟩:=zF hq;have l1:=C.length;have l2:=w.length;have S:=w1.length;have T:=w2.length;have es:(its.toArray.size==h.toArray.size)=(xs.length==ys.length):=by simp[<- l1,<- l2,S,T]
     have U:min its.toArray.size h.toArray.size=min xs.length ys.length:=by simp[<- l1,<- l2,S,T]
     have N:=RcAt.tuples pl B f (E C w w1 w2 G);have P:=RcNeAt.tuples pl B f (E C w w1 w2 G);rw[es,U,L]at N P;refine⟨?_,N,P⟩;by_cases hp:p=J
     .subst hp;have:=Z22 I _ _ _ _ _ _ _ ra' a0 W;rw[this];exact EqAt.same _
     .exact EqAt.of_refs hp N
   |_=>simp only[eqN]at e;cases e
  |lst xs =>
   obtain⟨p,vs,_,rfl,hs,C,_⟩:=cA F;cases (show r=Value.ref p from M)
   obtain⟨its,w1,pl,_⟩:=I.list hs;cases b with
   |non =>
    cases fN o;cases (show l=Value.none from q)
    simp only[eqN]at e;cases e;exact⟨EqAt.list_none pl.isList f,RcAt.list_none pl.isList f,RcNeAt.list_none pl.isList f⟩
   |lst ys =>
    obtain⟨J,us,_,rfl,O,w,_⟩:=cA o;cases (show l=Value.ref J from q)
    obtain⟨h,w2,B,_⟩:=I.list O;have W:=e;simp only[eqN]at e;have l1:=C.length;have l2:=w.length;have S:=w1.length;have T:=w2.length;have R:RcAt A s (.ref p) (.ref J) k/\RcNeAt A s (.ref p) (.ref J) (!k):=by
     by_cases hl:xs.length=ys.length
     .rw[if_pos hl]at e;obtain⟨Q,G,L⟩:=zF e;have hsz:its.toArray.size=h.toArray.size:=by simp;omega
      have U:its.toArray.size=min xs.length ys.length:=by simp;omega
      have N:=RcAt.lists pl.isList B.isList hsz f (E C w w1 w2 G);have P:=RcNeAt.lists pl.isList B.isList hsz f (E C w w1 w2 G);rw[U,L]at N P;exact⟨N,P⟩
     .rw[if_neg hl]at e;cases e;have hsz:(its.toArray.size != h.toArray.size)=true:=by simp;omega
      exact⟨RcAt.lists_lengths pl.isList B.isList hsz f,RcNeAt.lists_lengths pl.isList B.isList hsz f⟩
    refine⟨?_,R.1,R.2⟩;by_cases hp:p=J
    .subst hp;have:=Z22 I _ _ _ _ _ _ _ F o W;rw[this];exact EqAt.same _
    .exact EqAt.of_refs hp R.1
   |_=>simp only[eqN]at e;cases e
  |obj _ _ _=>simp only[eqN]at e;cases e
  |dk _ _=>simp only[eqN]at e;cases e
  |dt _ _=>simp only[eqN]at e;cases e
  |exc _=>simp only[eqN]at e;cases e
  |fn _ _ _=>simp only[eqN]at e;cases e
def fEq(fa fb:En->Aa D):En->Aa Bool:=λenv=>match fa env,fb env with
 |some x,some y=>eqN 8 x y
 |_,_=>none
def Z9M(neg:Bool)(K:Frag):R2:=λv u H Q=>∃a b f1 f2 k st1 st2,Rep K st1 H a v f1/\Rep K st2 H b u f2/\eqN 8 a b=some k/\Q (.bl (if neg then !k else k)) H
def Z19(f:X.A.units+8<=cLine):OpR X (compareOp .Eq) (Z9M false X.K):=λpins s σ H x y v u Q I rx ry ⟨a,b,f1,f2,k,st1,st2,r1,r2,e,q⟩ =>
 (Z6B I 8 X.A a b x y v u f1 f2 k f r1 r2 rx ry e).2.1 _ _ _ _ ⟨.bl k,H,I,rfl,q⟩
def Z5P(f:X.A.units+8<=cLine):OpR X (compareOp .NotEq) (Z9M true X.K):=λpins s σ H x y v u Q I rx ry ⟨a,b,f1,f2,k,st1,st2,r1,r2,e,q⟩ =>
 (Z6B I 8 X.A a b x y v u f1 f2 k f r1 r2 rx ry e).2.2 _ _ _ _ ⟨.bl (!k),H,I,rfl,q⟩
def oW(e:fEq fa fb env=some bb):∃x y,fa env=some x/\fb env=some y/\eqN 8 x y=some bb:=by
 unfold fEq at e;split at e
 .rename_i x y h1 a;exact⟨x,y,h1,a,e⟩
 .cases e
def cI(h:X.A.units+8<=cLine)(i:QE X m1 rs1 a fa)(j:QE X m2 rs2 b fb):QT X (.Compare a [.Eq] [b] pos) (fEq fa fb) :=
 tH (Z19 h) i j (lC _) (λenv x y K H v u f1 f2 Q bb e ea eb r1 r2 hK q=>by
  subst hK;obtain⟨n,o,h1,f,l⟩:=oW e;rw[ea]at h1;rw[eb]at f;cases h1;cases f;exact⟨x,y,f1,f2,bb,_,_,r1,r2,l,q⟩) λenv bb e=>let ⟨x,y,h1,f,_⟩:=oW e;⟨x,y,h1,f⟩
def uY(i:X.A.units+8<=cLine)(j:QE X m1 rs1 a fa)(l:QE X m2 rs2 b fb):QT X (.Compare a [.NotEq] [b] pos) (mL (fEq fa fb)) :=
 tH (Z5P i) j l (lC _) (λenv x y K H v u f1 f2 Q bb e ea eb r1 r2 hK q=>by
  subst hK;unfold mL at e;cases h:fEq fa fb env with
  |none=>rw[h]at e;cases e
  |some k =>
   rw[h]at e;cases e;obtain⟨o,p,h1,f,n⟩:=oW h;rw[ea]at h1;rw[eb]at f;cases h1;cases f;exact⟨x,y,f1,f2,k,_,_,r1,r2,n,q⟩) λenv bb e=>by
  unfold mL at e;cases h:fEq fa fb env with
  |none=>rw[h]at e;cases e
  |some k=>obtain⟨x,y,h1,f,_⟩:=oW h;exact⟨x,y,h1,f⟩
def Z91(f:X.A.units+8<=cLine)(j:QE X m1 rs1 a fa)(l:QE X m2 rs2 b fb):QE X m rs (.Compare a [.Eq] [b] pos) (uJ (fEq fa fb)) :=
 .mk (N0 (Z19 f) j l (lC _)) λσ H Q ⟨env,F,d,ok,e,q⟩=>by
  unfold uJ at e;cases h:fEq fa fb env with
  |none=>rw[h]at e;cases e
  |some k =>
   rw[h]at e;cases e;obtain⟨x,y,h1,i,n⟩:=oW h;exact two ok h1 i λv u H' f1 f2 s r1 r2 _ _=>⟨x,y,f1,f2,k,_,_,r1,r2,n,q _ _ _ s Y5 .nil⟩
def Z0o:bootBuiltins "str" = some (.type "str"):=by decide +kernel
def eZ:OpR X (binaryOp .Mult) (rI IntMulOk λi j=>.int (i*j)):=opI λ_ _ _ _ _ _ _ hc q=>PyProof.Rows.mul_int q hc
def fS(i j:Int):Prop:=0<j/\j.natAbs.log2<9000
def dR:OpR X (binaryOp .FloorDiv) (rI fS λi j=>.int (i/j)):=opI λi j _ _ _ _ _ hc q=>by
 have h1:(0:Int)<j:=hc.1;exact floordiv_int (by omega) (by rw[Int.fdiv_eq_ediv_of_nonneg i (by omega)];exact q) (.inl (PyProof.noPylong_of_log2 hc.2))
def Q0(fa fb:En->Aa D):En->Aa D:=λenv=>match fa env,fb env with
 |some (.lst xs),some (.lst ys)=>if xs.length+ys.length<=1000 then some (.lst (xs++ys)) else none
 |_,_=>none
def xZ(E:QE X true [] a fa)(j:QE X true [] b fb):QE X true [] (.BinOp a .Add b pos) (Q0 fa fb) :=
 .mk (L2.pe_op Z5R E j) λσ H Q ⟨env,F,d,ok,e,q⟩=>by
  unfold Q0 at e;split at e
  .rename_i xs ys h1 K;split at e
   .rename_i I;cases e;refine⟨env,F,_,ok,h1,λv H1 f1 s1 r1 c1=>⟨env,F,_,ok.same s1,K,λu H2 f2 s2 r2 c2=>?_⟩⟩;have t:=r1.same s2;obtain⟨J,vs,n,rfl,rfl,A,i⟩:=hG t;obtain⟨G,us,r,rfl,rfl,B,f⟩:=hG r2;refine⟨J,G,vs,us,rfl,rfl,A,B,jT (by rw[i.length,f.length];exact I),λp hp=>?_⟩;have l:=c1.2 rfl;have h:=c2.2 rfl;have C:(n++r).Nodup:=by
     refine Qau.mpr ⟨(Qax.mp l.1).2,(Qax.mp h.1).2,λx hx y hy z=>?_⟩;obtain⟨o,w⟩:=Rep.dom _ _ _ r1 x (Qab _ hx);rw[z,h.2 y (Qab _ hy)]at w;cases w
    have fr:∀b∈n++r,H b=none:=λb j=>(Qai.mp j).elim (λz=>l.2 b (Qab _ z)) λz=>s1.free (h.2 b (Qab _ z));exact q _ _ (p::(n++r)) ((s1.trans s2).trans (bU hp)) (iO hp (i.append f)) (iC (s1.trans s2) hp (i.append f) ⟨λb j=>.inl (fr b j),λ_=>⟨C,fr⟩⟩)
   .cases e
  .cases e
def mT{α:Type}(nm:Str)(d:α):Ab Str->Ab α->Aa (Ab Str×Ab α)
 |[],[]=>some ([nm],[d])
 |n::ns,x::xs=>if n=nm then some (n::ns,d::xs) else(mT nm d ns xs).map λp=>(n::p.1,x::p.2)
 |_,_=>none
theorem X4{K:Frag}{H:Hp}{nm:Str}{d:D}{v:V}{fd:Ab Af}(l:Rep K true H d v fd):∀{ns i:Ab Str}{ds ds':Ab D}{vs:Ab V}{fp:Ab Af},Reps K true H ds vs fp->ns.length=vs.length->mT nm d ns ds=some (i,ds') ->
  ∃f fp2,jV nm v (ns.zip vs)=i.zip f/\i.length=f.length/\Reps K true H ds' f fp2/\(∀b∈fp2,b∈fp\/b∈fd)/\((fp++fd).Nodup->fp2.Nodup)/\i.length<=ns.length+1
 |[],i,[],ds',vs,fp,r,hl,e=>by
  simp only[mT]at e;cases e;simp only[Reps]at r;obtain⟨rfl,rfl⟩:=r;exact⟨[v],fd,rfl,rfl,by simp only[Reps];exact⟨v,[],fd,[],rfl,by simp,l,rfl,rfl⟩,λb hb=>.inr hb,λh=>by simpa using h,by simp⟩
 |n::ns,i,x::xs,ds',vs,fp,r,hl,e=>by
  simp only[Reps]at r;obtain⟨u,us,f1,t,rfl,rfl,C,q⟩:=r;simp only[mT]at e;by_cases j:n=nm
  .rw[if_pos j]at e;cases e;refine⟨v::us,fd++t,by simp[jV,j],by simpa using hl,by simp only[Reps];exact⟨v,us,fd,t,rfl,rfl,l,q⟩,λb hb=>?_,λh=>?_,by simp⟩
   .rcases Qai.mp hb with z|z
    .exact .inr z
    .exact .inl (Qag _ z)
   .rw[Qau]at h;obtain⟨h1,E,G⟩:=h;rw[Qau]at h1;exact Qau.mpr ⟨E,h1.2.1,λa ha b hb z=>G b (Qag _ hb) a ha z.symm⟩
  .rw[if_neg j]at e;cases hq:mT nm d ns xs with
   |none=>rw[hq]at e;cases e
   |some p =>
    rw[hq]at e;cases e;obtain⟨f,fp2,w,A,B,o,F,I⟩:=X4 l q (by simpa using hl) hq;refine⟨u::f,f1++fp2,by simp[jV,j,w],by simp[A],by simp only[Reps];exact⟨u,f,f1,fp2,rfl,rfl,C,B⟩,λb hb=>?_,λh=>?_,by simp;omega⟩
    .rcases Qai.mp hb with z|z
     .exact .inl (Qaq _ z)
     .exact(o b z).imp (λy=>Qag _ y) id
    .rw[Qa1,Qau]at h;refine Qau.mpr ⟨h.1,F h.2.1,λa ha b hb z=>?_⟩;rcases o b hb with y|y
     .exact h.2.2 a ha b (Qaq _ y) z
     .exact h.2.2 a ha b (Qag _ y) z
 |[],_,_::_,_,_,_,_,_,e=>by simp[mT]at e
 |_::_,_,[],_,_,_,_,_,e=>by simp[mT]at e
def spI(K:Frag)(C:Af)(n:Nat)(f:Ab D->Aa D):Sp:=λvs H Q _=>∃x dx H0 us ds d fp,vs=.ref x::us/\H0 x=none/\H0 dx=none/\dx≠x/\H=upd (upd H0 dx (.own x)) x (.ins C dx [])/\ds.length=n/\Reps K false H0 ds us fp/\f ds=some d /\
 ∀H' fp',Same H0 H'->Rep K true H' d (.ref x) fp'->(∀b∈fp',H0 b=none)->fp'.Nodup->Q .non H'
def Z1X{K:Frag}{C:Af}{n:Nat}{f:Ab D->Aa D}{vs:Ab V}{H:Hp}{Q:VK}{E:XK}(h:spI K C n f vs H Q E):vs.length=n+1:=by
 obtain⟨x,dx,b,us,ds,d,fp,rfl,_,_,_,_,h1,a,_⟩:=h;rw[Qaf,a.length,h1]
section
variable {X:Cx}{m1:Bool}{rs1:Ab Nat}{e b c:Ag}{es:Ab Ag}{fs:En->Aa (Ab D)}{pos p:Pos}{x:Str}{C:Af}
def Z7S(M:Mk X.K C fA)(G:iF X.prog X.w X.K X.mg X.base CX0 k fA fd ps (spI X.K C n F'))(l:Room (k+1) X.A)(i:Gl X x)(h:X.mg x=some (.ref C))(a:Binds X.K fd ps [])(j:QA X m1 rs1 (e::es) fs)(o:∀env xs,fs env=some xs->xs.length=n)
  (f:nDb x:=by decide) (he:sEa e es X.env:=by rfl) (hpl:bTa pos es X.env:=by rfl) :
  QE X true [] (.Call (.Name x p) (e::es) [] pos) (λenv=>(fs env).bind F') :=
 .mk (L2.pe_make M G l i h a .nil Z2n j f he hpl) λσ H Q ⟨env,F,d,ok,e,q⟩=>by
  cases h1:fs env with
  |none=>simp only[h1]at e;cases e
  |some xs =>
   simp only[h1,Qa3]at e;refine⟨env,F,xs,ok,h1,λvs H1 fp s r c x dx hx hdx hne=>⟨x,dx,H1,vs++[],xs,d,fp,rfl,hx,hdx,hne,rfl,o env xs h1,by rw[QaP];exact Reps.weak _ _ _ r,e,λH' fp' s' r' fr nd=>⟨rfl,q _ H' fp' (s.trans s') r' ⟨λb a=>.inl (s.free (fr b a)),λ_=>⟨nd,λb a=>s.free (fr b a)⟩⟩⟩⟩⟩
end
def T6{K:Frag}{P H:Hp}{σ:L2.St}{env:En}{F:Nat->Ab Af}{i:Nat}{J d':D}{a:Af}{v:V}{o o':HO}(S:Same P H)(I:σ.length=env.length)(h:EnvS K P H σ env F)(q:env[i]?=some (some (true,J)))
  (B:σ[i]?=some (some v)) (l:a∈F i) (C:H a=some o) (G:∀xs,o ≠ .tup xs) (Q:∀x u,o ≠ .frz x u) (p:∀st,Rep K st (upd H a o') d' v (F i)):SInv K P (upd H a o') σ (env.set i (some (true,d'))):=by
 have hi:i<env.length:=(Qae.mp q).1;obtain⟨N,y,T,r⟩:=h.own i _ q;have A:∀{fp:Ab Af},a∉fp->Kp fp H (upd H a o'):=λM=>Kp.upd C G Q M;refine⟨λb o e=>?_,by simp[I],F,λj o d e=>?_,λj d e=>?_⟩
 .have:b≠a:=λz=>by have:=y a l;rw[z,this]at e;cases e
  rw[aY this];exact S _ _ e
 .rw[cN hi]at e;by_cases f:j=i
  .subst f;rw[if_pos rfl]at e;cases e;exact⟨_,B,p false⟩
  .rw[if_neg f]at e;obtain⟨w,h1,R⟩:=h.ok j o d e;exact⟨w,h1,Rep.keep _ _ _ (A (r j _ f e a l)) R⟩
 .rw[cN hi]at e;by_cases f:j=i
  .subst f;rw[if_pos rfl]at e;cases e;refine⟨N,y,λw hw=>?_,λk s hk ek b hb=>?_⟩
   .rw[B]at hw;cases hw;exact p true
   .rw[cN hi,if_neg hk]at ek;exact r k s hk ek b hb
  .rw[if_neg f]at e;obtain⟨O,E,L,t⟩:=h.own j d e;refine⟨O,E,λw hw=>Rep.keep _ _ _ (A (r j _ f e a l)) (L w hw),λk s hk ek b hb=>?_⟩;rw[cN hi]at ek;by_cases n:k=i
   .subst n;exact t k _ hk q b hb
   .rw[if_neg n]at ek;exact t k s hk ek b hb
theorem Reps.modify{K:Frag}{H:Hp}:∀{ds:Ab D}{vs:Ab V}{fp:Ab Af}{k:Nat}{es:Ab D},Reps K true H ds vs fp->ds[k]?=some (.lst es)->flats es=true->∃a us,vs[k]?=some (.ref a)/\H a=some (.lst us)/\Reps K true H es us []/\a∈fp /\
  (fp.Nodup->∀us' es',Reps K true H es' us' []->Reps K true (upd H a (.lst us')) (ds.set k (.lst es')) vs fp)
 |[],vs,fp,k,es,r,e,hf=>by simp at e
 |d::ds,vs,fp,0,es,r,e,hf=>by
  simp at e;subst e;simp only[Reps]at r;obtain⟨v,us,f1,b,rfl,rfl,i,f⟩:=r;obtain⟨a,ws,g,rfl,rfl,n,p⟩:=hG i;obtain⟨q,A⟩:=Reps.flat _ _ _ hf p;subst q;refine⟨a,ws,rfl,n,p,by simp,λnd us' es' r'=>?_⟩;simp only[List.set_cons_zero,Reps];have h:a∉b:=λz=>by simp at nd;exact nd.1 z
  have l:∀{fp:Ab Af},a∉fp->Kp fp H (upd H a (.lst us')):=λt=>Kp.upd n (by intro xs z;cases z) (by intro x u z;cases z) t;refine⟨.ref a,us,[a],b,rfl,rfl,?_,Reps.keep _ _ _ (l h) f⟩;simp only[Rep];exact⟨a,us',[],rfl,Reps.keep _ _ _ (l (by simp)) r',.inl ⟨rfl,bG⟩⟩
 |d::ds,vs,fp,k+1,es,r,e,hf=>by
  simp only[Reps]at r;obtain⟨v,us,f1,b,rfl,rfl,i,f⟩:=r;obtain⟨a,ws,h1,o,y,j,w⟩:=Reps.modify (k:=k) f (by simpa using e) hf;refine⟨a,ws,by simpa using h1,o,y,Qag _ j,λnd us' es' r'=>?_⟩;rw[Qau]at nd;simp only[List.set_cons_succ,Reps];have h:a∉f1:=λz=>nd.2.2 a z a j rfl;exact⟨v,us,f1,b,rfl,rfl,Rep.keep _ _ _ (Kp.upd o (by intro xs z;cases z) (by intro x u z;cases z) h) i,w nd.2.1 us' es' r'⟩
def xS{K:Frag}{st:Bool}{H:Hp}{a:Af}{vs:Ab V}{ds:Ab D}{fp:Ab Af}(b:H a=some (.lst vs))(r:Reps K true H ds vs fp):Rep K st H (.lst ds) (.ref a) (a::fp):=by
 cases st with
 |true=>simp only[Rep];exact⟨a,vs,fp,rfl,r,.inl ⟨rfl,b⟩⟩
 |false=>simp only[Rep];exact⟨a,vs,fp,rfl,Reps.weak _ _ _ r,.inl ⟨rfl,b⟩⟩
structure aU(P:Program)(w:World)(K:Frag)(mg:Str->Option Value)(base:Heap)(x:Str)(dds:List D)(k n:Nat)(F':List D->Option D):Prop where
 ex:∃fA fd ps dvs ds,iF P w K mg base CX0 k fA fd ps (spD K n F')/\mg x=some (.ref fA)/\keepIn K (.ref fA)=true/\Binds K fd ps ds/\Vals dvs ds/\∀H,Reps K false H dds dvs []
def aL(F':Ab D->Aa D)(dds:Ab D)(fs:En->Aa (Ab D)):En->Aa D:=λenv=>(fs env).bind λxs=>F' (xs++dds)
def fB1(F':Ab D->Aa D)(fs:En->Aa (Ab D)):En->Aa D:=λenv=>(fs env).bind F'
def sB1(F':Ab D->Aa (Ab D))(fs:En->Aa (Ab D)):En->Aa (Ab D):=λenv=>(fs env).bind F'
inductive NArgs:Nat->(En->Option (List D))->Prop
 |nil:NArgs 0 aH
 |cons {n:Nat}{f:En->Option D}{fs:En->Option (List D)}:NArgs n fs->NArgs (n+1) (aC f fs)
def NArgs.len(h:NArgs n fs):∀env xs,fs env=some xs->xs.length=n:=by
 induction h with
 |nil=>intro env xs e;cases e;rfl
 |cons h ih =>
  intro env xs e;unfold aC at e;split at e
  .rename_i d ds h1 a;cases e;rw[Qaf,ih env _ a]
  .cases e
def Z9W(c:aU X.prog X.w X.K X.mg X.base x dds k n F')(q:Room k X.A)(a:NArgs na fs)(j:na+dds.length=n)(i:QA X m1 rs1 (e::es) fs)(o:Gl X x:=by rfl)
  (f:nDb x:=by decide) (he:sEa e es X.env:=by rfl) (hpl:bTa pos es X.env:=by rfl) :
  QE X true [] (.Call (.Name x p) (e::es) [] pos) (aL F' dds fs):=by
 obtain⟨u,fd,ps,dvs,ds,G,l,t,r,hd,b⟩:=c.ex;exact Z7X G q o l t r hd b i (λenv xs h=>by rw[a.len env xs h];exact j) f he hpl
structure Z0x(P:Program)(w:World)(K:Frag)(mg:Str->Option Value)(base:Heap)(x:Str)(C:Addr)(k n:Nat)(F':List D->Option D):Prop where
 ex:∃fA fd ps,Mk K C fA/\iF P w K mg base CX0 k fA fd ps (spI K C n F')/\mg x=some (.ref C)/\Binds K fd ps []
def Z8Z(c:Z0x X.prog X.w X.K X.mg X.base x C k n F')(l:Room (k+1) X.A)(a:NArgs n fs)(j:QA X m1 rs1 (e::es) fs)(i:Gl X x:=by rfl)
  (b:nDb x:=by decide) (he:sEa e es X.env:=by rfl) (hpl:bTa pos es X.env:=by rfl) :
  QE X true [] (.Call (.Name x p) (e::es) [] pos) (fB1 F' fs):=by
 obtain⟨q,fd,ps,M,G,f,o⟩:=c.ex;exact Z7S M G l i f o j (λenv xs h=>a.len env xs h) b he hpl
def bM(r:Room k A):A.units+8<=cLine:=by have:=r.un;omega
def fL(i:Nat)(he:QE X true [] e f)(o:X.N[i]?=some x:=by rfl)(q:Vis X.env.scope x:=by first|exact Or.inl rfl|exact Or.inr (Or.inl rfl)|exact Or.inr (Or.inr rfl))(hd:nDb x:=by decide)(l:(x==("__classdict__" : Str))=false:=by decide)
  (h:attributeBase (.Name x p) "append" X.env (eval (.Name x p) X.env)=eval (.Name x p) X.env:=by rfl)
  (n:((backTo cpos (starEach [e] X.env)).all (fun x=>!x.1) && (backToKw cpos (keywordEach [] X.env)).all (fun x=>x.1.isSome)
   && decide (([e]:Ab Ag).length+([]:Ab Keyword).length+(if ([]:Ab Keyword).isEmpty then 0 else 1)<30))=true:=by rfl)
  (j:(apos.endLine==cpos.line)=true:=by rfl) (a:starEach [e] X.env=(false,eval e X.env)::starEach [] X.env:=by rfl) (b:(backTo cpos (starEach [] X.env)).any (·.1)=false:=by rfl)
  (hs:swapsWith (.Call (.Attribute (.Name x p) "append" apos) [e] [] cpos) none pos.line X.env=pure false:=by rfl) :
  QS X (.Expr (.Call (.Attribute (.Name x p) "append" apos) [e] [] cpos) pos) (fU i f) :=
 Z3E o q he hd l a (hpe:=Z2m PySem.F.plainAttrs_list PySem.F.slot_list_append PySem.F.type_list_append tL (jG o q hd l) (pa_cons he pa_nil a) h n j a b) (hs:=hs)
def Z2c(i:Nat)(j:QE X m2 rs2 k fk)(he:QE X m1 rs1 e f)(b:X.N[i]?=some x:=by rfl)(h:Vis X.env.scope x:=by first|exact Or.inl rfl|exact Or.inr (Or.inl rfl)|exact Or.inr (Or.inr rfl))(hd:nDb x:=by decide)(a:(x==("__classdict__" : Str))=false:=by decide)
  (l:∀ v,assign (.Subscript (.Name x p) k spos) X.env v=(do
   let ov <- holding [v] (eval (.Name x p) X.env)
   let iv <- holding [v,ov] (eval k X.env)
   standAt spos
   holding [v,ov,iv] (setItem ov iv v)
   release [v,ov,iv] []):=by intro _;rfl)
  (hs:swapsWithSole [.Subscript (.Name x p) k spos] e pos.line X.env=pure false:=by rfl) (hw:swappedStores [.Subscript (.Name x p) k spos] e X.env=pure none:=by rfl) :
  QS X (.Assign [.Subscript (.Name x p) k spos] e pos) (W7 i fk f) :=
 Z9R b h he j hd a (hps:=Z15 he (Z5K (jG b h hd a) j U6 l) hs hw)
def Z7L(he:QE X m rs e f)(a:QG X tg t)(hs:swapsWithSole [tg] e pos.line X.env=pure false:=by rfl)(hw:swappedStores [tg] e X.env=pure none:=by rfl)(h1:(assignEach [tg] X.env).map (·.2)=[assign tg X.env]:=by rfl):QS X (.Assign [tg] e pos) (Z5e rs t f) :=
 Z9P he a hs hw (hps:=Z15 he a hs hw h1)
def jA(i:Nat):En->Res:=λenv=>match env[i]? with|some (some (true,d))=>.ret d|_=>.bad
def M5:QE X m rs (.UnaryOp .USub (.Constant (.int i) k pp) pos) (fC (.int (-i))) :=
 .mk (pe_un Z4N L2.pe_int) λσ H Q ⟨env,F,d,ok,e,q⟩=>by cases e;exact⟨i,rfl,q _ _ _ (Same.refl H) fM .nil⟩
def FunD.raw{P:Aj}{w:Ak}{K:Frag}{mg:Str->Aa Ad}{base:Ah}{x a:Str}{st:Stmt}{f:Af}{fd:FuncData}{N ps:Ab Str}{k:Nat}{sp:Sp}(F:FunD K x a st f fd)(S:gN N ps (aT st))(len:∀vs H Q E,sp vs H Q E->vs.length=ps.length)
  (e:∀ (b:Ad) (A:Ai) (outer:Ab Env) (s:Ac) (H:Hp) (vs:Ab V) (Q:VK) (E:XK),Room k (A.deeper (envOfC a (aT st) s.heap.objs.size f b))->sp vs H Q E ->
   ∃t,PSs (uK CX0 P w K mg base N a (aT st) f b A outer s H E).nox (cO st) t/\t { nx:=λ_ H'=>Q .non H',rt:=Q } (L2.start N vs) H):iF P w K mg base CX0 (k+1) f fd ps sp:=by
 obtain⟨r,o,p,kV,n,u,an,b,ct,l,rfl,j,i⟩:=F.ex;refine Z6y j i S len λA outer s H vs Q E hr hsp=>?_;obtain⟨t,h,q⟩:=e b A outer s H vs Q E hr hsp;exact⟨t,h.nox,q⟩
def Zbf{K:Frag}{C x dx:Af}{l:Hp}{σ:L2.St}{us:Ab V}{ds:Ab D}{fp:Ab Af}{i j p:Str}{f1 f2 f3:En->Aa D}{env:En}{O S W:D}{E:T1}{F:Nat->Ab Af}
  (Z:l x=none) (L:l dx=none) (J:dx≠x) (ok:EnvOk K l σ env F) (T:σ[0]?=some (some (.ref x))) (e1:f1 env=some O) (e2:f2 env=some S) (e3:f3 env=some W)
  (P:Cls K C) (a1:NoAttr K C i) (a2:NoAttr K C j) (a3:NoAttr K C p) (k12:¬i=j) (k13:¬i=p) (k23:¬j=p)
  (q:∀H' fp',Same l H'->Rep K true H' (.obj C [i,j,p] [O,S,W]) (.ref x) fp'->(∀b∈fp',l b=none)->fp'.Nodup->E.nx σ H') :
  Z9q (Z57 K (wZ 0) (tD K true [] f1) i) (Z9q (Z57 K (wZ 0) (tD K true [] f2) j) (Z57 K (wZ 0) (tD K true [] f3) p)) E σ (upd (upd l dx (.own x)) x (.ins C dx [])):=by
 have a4:upd l dx (.own x) x=none:=by rw[aY (Ne.symm J)];exact Z
 have R:Same l (upd (upd l dx (.own x)) x (.ins C dx [])):=(bU L).trans (bU a4);have H:∀{r X:Hp}{o:HO},Same l r->Same r X->Same l (upd X x o):=λ{r X o} sa sb b u e=>by
  rw[aY (bO e Z)];exact sb _ _ (sa _ _ e)
 have p1:∀y1:V,jV i y1 []=[(i,y1)]:=λ_=>rfl;have p2:∀y1 y2:V,jV j y2 [(i,y1)]=[(i,y1),(j,y2)]:=λy1 y2=>by simp[jV,k12]
 have p3:∀y1 y2 y3:V,jV p y3 [(i,y1),(j,y2)]=[(i,y1),(j,y2),(p,y3)]:=λy1 y2 y3=>by simp[jV,k13,k23]
 refine⟨env,F,O,ok.same R,e1,λy1 H1 g1 s1 r1 c1=>⟨.ref x,T,x,C,dx,[],rfl,s1 _ _ bG,P,a1,by show 0<1000;decide,?_⟩⟩;rw[p1];have S1:Same l (upd H1 x (.ins C dx [(i,y1)])):=H R s1;refine⟨env,F,S,ok.same S1,e2,λy2 H2 g2 s2 r2 c2=>⟨.ref x,T,x,C,dx,[(i,y1)],rfl,s2 _ _ bG,P,a2,by show 1<1000;decide,?_⟩⟩;rw[p2];have Y:Same l (upd H2 x (.ins C dx [(i,y1),(j,y2)])):=H S1 s2;refine⟨env,F,W,ok.same Y,e3,λy3 H3 g3 s3 r3 c3=>⟨.ref x,T,x,C,dx,[(i,y1),(j,y2)],rfl,s3 _ _ bG,P,a3,by show 2<1000;decide,?_⟩⟩;rw[p3];have S3:Same l (upd H3 x (.ins C dx [(i,y1),(j,y2),(p,y3)])):=H Y s3;have x1:H1 x=some (.ins C dx []):=s1 _ _ bG;have x2:H2 x=some (.ins C dx [(i,y1)]):=s2 _ _ bG;have Q:H3 x=some (.ins C dx [(i,y1),(j,y2)]):=s3 _ _ bG;have y:=c1.2 rfl;have w:=c2.2 rfl;have t:=c3.2 rfl;have A:x∉g1:=λz=>by have:=y.2 x z;rw[bG]at this;cases this
 have I:x∉g2:=λz=>by have:=w.2 x z;rw[bG]at this;cases this
 have M:x∉g3:=λz=>by have:=t.2 x z;rw[bG]at this;cases this
 have G:∀{r:Hp}{o o':HO}{fp:Ab Af},r x=some o->(∀xs,o ≠ .tup xs)->(∀a b,o ≠ .frz a b)->x∉fp->Kp fp r (upd r x o'):=λh m f n=>Kp.upd h m f n;have R1:=Rep.keep _ _ _ (G (o':=.ins C dx [(i,y1)]) x1 (by intro xs z;cases z) (by intro a b z;cases z) A) r1;have N:=Rep.keep _ _ _ (G (o':=.ins C dx [(i,y1),(j,y2)]) x2 (by intro xs z;cases z) (by intro a b z;cases z) A) (R1.same s2);have U:=Rep.keep _ _ _ (G (o':=.ins C dx [(i,y1),(j,y2),(p,y3)]) Q (by intro xs z;cases z) (by intro a b z;cases z) A) (N.same s3);have R2:=Rep.keep _ _ _ (G (o':=.ins C dx [(i,y1),(j,y2)]) x2 (by intro xs z;cases z) (by intro a b z;cases z) I) r2;have a0:=Rep.keep _ _ _ (G (o':=.ins C dx [(i,y1),(j,y2),(p,y3)]) Q (by intro xs z;cases z) (by intro a b z;cases z) I) (R2.same s3);have R3:=Rep.keep _ _ _ (G (o':=.ins C dx [(i,y1),(j,y2),(p,y3)]) Q (by intro xs z;cases z) (by intro a b z;cases z) M) r3;have B:∀{r:Hp}{o:HO},r dx=some (.own x)->upd r x o dx=some (.own x):=λh=>by rw[aY J];exact h
 have dz:upd (upd l dx (.own x)) x (.ins C dx []) dx=some (.own x):=B bG;have D1:=s1 _ _ dz;have D2:=s2 _ _ (B (o:=.ins C dx [(i,y1)]) D1);have D3:=s3 _ _ (B (o:=.ins C dx [(i,y1),(j,y2)]) D2);have nd1:dx∉g1:=λz=>by have:=y.2 dx z;rw[dz]at this;cases this
 have nd2:dx∉g2:=λz=>by have:=w.2 dx z;rw[B D1]at this;cases this
 have nd3:dx∉g3:=λz=>by have:=t.2 dx z;rw[B D2]at this;cases this
 have d12:∀a∈g1,∀b∈g2,a≠b:=λa ha b hb z=>by
  obtain⟨o,v⟩:=Rep.dom _ _ _ R1 a ha;rw[z,w.2 b hb]at v;cases v
 have d13:∀a∈g1,∀b∈g3,a≠b:=λa ha b hb z=>by
  obtain⟨o,v⟩:=Rep.dom _ _ _ N a ha;rw[z,t.2 b hb]at v;cases v
 have d23:∀a∈g2,∀b∈g3,a≠b:=λa ha b hb z=>by
  obtain⟨o,v⟩:=Rep.dom _ _ _ R2 a ha;rw[z,t.2 b hb]at v;cases v
 refine q _ (x::dx::(g1++(g2++(g3++[])))) S3 ?_ (λb hb=>?_) ?_
 .simp only[Rep,Reps];exact⟨x,dx,[y1,y2,y3],g1++(g2++(g3++[])),rfl,rfl,bG,B D3,rfl,y1,[y2,y3],g1,_,rfl,rfl,U,y2,[y3],g2,_,rfl,rfl,a0,y3,[],g3,[],rfl,rfl,R3,rfl,rfl⟩
 .rcases Qad.mp hb with z|z
  .rw[z];exact Z
  .rcases Qad.mp z with z|z
   .rw[z];exact L
   rw[QaP]at z;rcases Qai.mp z with z|z
   .exact R.free (y.2 b z)
   .rcases Qai.mp z with z|z
    .exact S1.free (w.2 b z)
    .exact Y.free (t.2 b z)
 .rw[QaP];refine Qax.mpr ⟨λz=>?_,Qax.mpr ⟨λz=>?_,Qau.mpr ⟨y.1,Qau.mpr ⟨w.1,t.1,d23⟩,λa ha b hb=>?_⟩⟩⟩
  .rcases Qad.mp z with z|z
   .exact J z.symm
   rcases Qai.mp z with z|z
   .exact A z
   .rcases Qai.mp z with z|z
    .exact I z
    .exact M z
  .rcases Qai.mp z with z|z
   .exact nd1 z
   .rcases Qai.mp z with z|z
    .exact nd2 z
    .exact nd3 z
  .rcases Qai.mp hb with z|z
   .exact d12 a ha b z
   .exact d13 a ha b z
end PD
namespace Att
open PySem PySem.W PySem.Calls PyProof.Rows
theorem nP:∀{ns:Ab Int}{i:Int},i∈ns->WData.weight (.int i)<=WData.weightAll (ns.map WData.int)
 |[],i,h=>nomatch h
 |n::ns,i,h=>by
  simp only[Qak,WData.weightAll];rcases Qad.mp h with z|z
  .subst z;omega
  .have:=nP z;omega
def Z0t{ns:Ab Int}(h:WData.layableAll [WData.list (ns.map WData.int)]=true):∀i∈ns,Builtin.Int.intBits i<=1048576:=λi hi=>by
 simp only[WData.layableAll,List.all_cons,List.all_nil,Bool.and_true,WData.layable,QaE,Rl,WData.weight]at h;have h1:=nP hi;have a:WData.weight (.int i)=Builtin.Int.intBits i:=by simp only[WData.weight,Builtin.Int.intBits]
 rw[a]at h1;have b:WData.weightAll (List.map WData.int ns)<=2^20:=of_decide_eq_true h.2;exact QaC h1 b
def attach_callB{l:OpenLaw}
  (L:l.most=some n) (E:d.params.defaults=[])
  (call:∀ (w:Ak) (s₀ s₁:Ac) (mg j:Str->Aa Ad) (fa:Af) (o:Obj) (t h b:Ad) (a:Af) (vs:Ab Ad) (ns:Ab Int),
   (∀i∈ns,Builtin.Int.intBits i<=1048576)->Ground q loose [] XP w s₀ mg j s₁.heap->YP w s₁.heap ->
   s₁.heap.get? fa=some o->o.data=.func (docDef d.name d.params d.body d.scope t h b)->s₁.heap.CodeRec h d.name->mg d.name=some (.ref fa) ->
   s₁.heap.get? a=some { cls:=.type "list",data:=.seq vs.toArray }->IntsAre vs ns->ns.length<=n->s₁.gens = #[] ->
   codeAny (model l.prog w) callerA (.call (.ref fa) ⟨[.ref a],[]⟩) (λr s'=>r=.ok (.ret (.bool true))/\OldK s₁.heap s'.heap/\s'.os=s₁.os/\AllBare s'.gens) s₁) :
  WalkO q loose XP YP l.row.toRowW d [] (λf vs=>PySem.call f vs):=by
 intro w s₀ s₁ mg j G Y fa o t h b M kV K hd A B y I args F Q v p O C P;obtain rfl:M=.none:=Dflts.none B E;obtain rfl:kV=.none:=Dflts.noKw B;obtain⟨a,vs,ns,rfl,rfl,x,e,u⟩:=Z3h L v C;refine enter_call (codeAny_mono (call w s₀ s₁ mg j fa o t h b a vs ns (Z0t p) G Y K (fd_plain hd) A y x e u I) λr s' hq=>?_);obtain⟨rfl,N,J,H⟩:=hq;exact⟨.inl ⟨.bool true,.bool true,[],rfl,λ_=>rfl,.bool true,Z3K l _,λ_=>⟨List.Pairwise.nil,λ_ hm=>(nomatch hm)⟩⟩,N,J,H⟩
end Att
namespace PD
open PySem PySem.Spec PyProof.Rows L2
theorem pI{K:Frag}{st:Bool}:∀(ns:Ab Int),Reps K st H (ns.map D.int) (ns.map V.int) []
 |[]=>by simp only[QaT,Reps];exact⟨trivial,trivial⟩
 |n::ns=>by simp only[Qak,Reps];exact⟨.int n,ns.map V.int,[],[],rfl,rfl,fM,pI ns⟩
def walkD{l:PySem.W.OpenLaw}{K:Params->Frag}
  (B:l.most=some n) (y:n<=sizeLine) (t:d.params.defaults=[]) (E:Room k callerA)
  (A:∀(w:Ak) (h:Ah),YP w h->(K w.params).In h)
  (F:∀ (w:Ak) (mg:Str->Aa Ad) (fa:Af) (h:Ah),(K w.params).In h->h.Ns mainGlobals mg->mg d.name=some (.ref fa) ->
   ∃(fd:FuncData) (m:Ab D->Aa D),(∀(s:Ac) (u:Ad),BindsTo s fd ⟨[u],[]⟩ [(x,u)])/\(∀ns:Ab Int,ns.length<=n->(∀i∈ns,Builtin.Int.intBits i<=1048576)->m [.lst (ns.map D.int)]=some (.bl true)) /\
    ∀base:Ah,(K w.params).In base->base.Ns mainGlobals mg->iF l.prog w (K w.params) mg base CX0 k fa fd [x] (spD (K w.params) 1 m)) :
  PySem.W.WalkO q loose XP YP l.row.toRowW d [] (λf vs=>PySem.call f vs):=by
 refine Att.attach_callB B t λw s₀ s₁ mg mb fa o pm cd doc a vs ns hbits G Y ho hd hcd hmg hobj hints hlen hg=>?_;have p:=A w _ Y;obtain⟨fd,m,I,C,hF⟩:=F w mg fa _ p G.T.g hmg;refine Z68 p G.T.g G.T.b G.T.builtins G.T.nolimit hg hobj hints (QaC hlen y) E hF I (λH hO hS=>?_) λH e s' z=>z;have j:∃fp,Reps (K w.params) false H [.lst (ns.map D.int)] [.ref a] fp:=by
  rcases Z4U hS with z|z
  .refine⟨[a],?_⟩;simp only[Reps,Rep];exact⟨.ref a,[],[a],[],rfl,rfl,⟨a,_,[],rfl,pI ns,.inl ⟨rfl,z⟩⟩,rfl,rfl⟩
  .refine⟨[],?_⟩;simp only[Reps,Rep];exact⟨.ref a,[],[],[],rfl,rfl,⟨a,_,[],rfl,pI ns,.inr ⟨trivial,rfl,z⟩⟩,rfl,rfl⟩
 obtain⟨fp,j⟩:=j;exact⟨_,_,fp,rfl,j,C ns hlen hbits,λv H' fp' _ r _ _=>kF r⟩
def lQ(i j:Int):Prop:=0<=j/\(Builtin.Int.intBits i:Int)+j<=2^27
def fQ:OpR X (binaryOp .LShift) (rI lQ λi j=>.int (i*2^j.toNat)):=opI λ_ _ _ _ _ _ _ hc q=>PyProof.Rows.lshift_int hc.1 hc.2 q
def Q3(h:Builtin.Int.intBits i<=n)(a:0<=j)(h1:(n:Int)+j<=100000000):lQ i j:=by
 have e:(2:Int)^27=134217728:=by decide
 refine⟨a,?_⟩;rw[e];omega
def nM(a:0<=j)(h1:j<=1000000):lQ 1 j:=Q3 (n:=64) (PySem.intBits_le_64 (by decide) (by decide)) a (by omega)
def qp(h:QE X true [] e f):QE X true [] e f:=h
open PySem PySem.Spec PyProof.Rows L2 PySem.SeqAt
section
variable {X:Cx}{pins:Ab (Af×Obj)}{σ:L2.St}{H:Hp}{s:Ac}
def Z5V(h1:s.heap.IsTuple p xs)(f:s.heap.IsList p ys):False:=by
 obtain⟨o,e,h,_⟩:=h1;obtain⟨o',a,b,_⟩:=f;rw[e]at a;cases a;rw[h]at b;exact absurd b (by simp)
def R7:D->Prop
 | .obj _ _ _=>False
 | .dk _ _=>False
 | .dt _ _=>False
 | .exc _=>False
 | .fn _ _ _=>False
 |_=>True
def Z8B:eqN n (.obj C ns xs) x=none:=by cases n<;>cases x<;>simp only[eqN]
def Zao:eqN n (.dk ns xs) x=none:=by cases n<;>cases x<;>simp only[eqN]
def Zan:eqN n (.dt ns xs) x=none:=by cases n<;>cases x<;>simp only[eqN]
def Z8C:eqN n (.exc C) x=none:=by cases n<;>cases x<;>simp only[eqN]
def Zam:eqN n (.fn a vs ds) x=none:=by cases n<;>cases x<;>simp only[eqN]
def E4(e:eqN n a x=some k):R7 a:=by
 cases a with
 |obj C ns xs=>rw[Z8B]at e;cases e
 |dk ns xs=>rw[Zao]at e;cases e
 |dt ns xs=>rw[Zan]at e;cases e
 |exc C=>rw[Z8C]at e;cases e
 |fn _ _ _=>rw[Zam]at e;cases e
 |_=>trivial
def Z5b(I:Inv X pins σ H s){a b:D}{v:V}{f1 N:Ab Af}(n:Rep X.K st1 H a v f1)(f:Rep X.K st2 H b v N)(t:R7 a)(l:R7 b) :
  a=b\/(∃xs ys vs g1 g2,a=.tup xs/\b=.tup ys/\Reps X.K st1 H xs vs g1/\Reps X.K st2 H ys vs g2)\/(∃xs ys vs g1 g2,a=.lst xs/\b=.lst ys/\Reps X.K st1 H xs vs g1/\Reps X.K st2 H ys vs g2):=by
 have tl:∀{xs ys:Ab D}{st B:Bool}{v:V}{g g':Ab Af},Rep X.K st H (.tup xs) v g->Rep X.K B H (.lst ys) v g'->False:=by
  intro xs ys st B v g g' G M;simp only[Rep]at G;obtain⟨p,vs,rfl,hs,_⟩:=G;obtain⟨P,us,_,e,o,_,_⟩:=cA M;cases e;obtain⟨_,_,pl,_⟩:=I.tuple hs;obtain⟨_,_,F,_⟩:=I.list o;exact Z5V pl F.isList
 have J:∀{d:D}{st:Bool}{v:V}{g:Ab Af},Rep X.K st H d v g->R7 d->(∀p,v ≠ .ref p)->(d=.non/\v=.non)\/(∃b,d=.bl b/\v=.bl b)\/(∃i,d=.int i/\v=.int i)\/(∃z,d=.str z/\v=.str z):=by
  intro d st v g r w x;cases d with
  |non=>exact .inl ⟨rfl,fN r⟩
  |bl b=>exact .inr (.inl ⟨b,rfl,kF r⟩)
  |int b=>exact .inr (.inr (.inl ⟨b,rfl,bP r⟩))
  |str b=>exact .inr (.inr (.inr ⟨b,rfl,dD r⟩))
  |tup xs=>simp only[Rep]at r;obtain⟨p,_,e,_⟩:=r;exact absurd e (x p)
  |lst xs=>obtain⟨p,_,_,e,_⟩:=cA r;exact absurd e (x p)
  |obj _ _ _=>exact w.elim
  |dk _ _=>exact w.elim
  |dt _ _=>exact w.elim
  |exc _=>exact w.elim
  |fn _ _ _=>exact w.elim
 by_cases x:∃p,v=.ref p
 .obtain⟨p,rfl⟩:=x;cases a with
  |non=>have:=fN n;cases this
  |bl b=>have:=kF n;cases this
  |int b=>have:=bP n;cases this
  |str b=>have:=dD n;cases this
  |obj _ _ _=>exact t.elim
  |dk _ _=>exact t.elim
  |dt _ _=>exact t.elim
  |exc _=>exact t.elim
  |fn _ _ _=>exact t.elim
  |tup xs =>
   cases b with
   |non=>have:=fN f;cases this
   |bl b=>have:=kF f;cases this
   |int b=>have:=bP f;cases this
   |str b=>have:=dD f;cases this
   |obj _ _ _=>exact l.elim
   |dk _ _=>exact l.elim
   |dt _ _=>exact l.elim
   |exc _=>exact l.elim
   |fn _ _ _=>exact l.elim
   |lst ys=>exact(tl n f).elim
   |tup ys =>
    simp only[Rep]at n f;obtain⟨q,vs,e,hs,E⟩:=n;obtain⟨L,us,C,o,u⟩:=f;cases e;cases C;obtain rfl:=I.tuple_inj hs o;exact .inr (.inl ⟨xs,ys,_,_,_,rfl,rfl,E,u⟩)
  |lst xs =>
   cases b with
   |non=>have:=fN f;cases this
   |bl b=>have:=kF f;cases this
   |int b=>have:=bP f;cases this
   |str b=>have:=dD f;cases this
   |obj _ _ _=>exact l.elim
   |dk _ _=>exact l.elim
   |dt _ _=>exact l.elim
   |exc _=>exact l.elim
   |fn _ _ _=>exact l.elim
   |tup ys=>exact(tl f n).elim
   |lst ys =>
    obtain⟨q,vs,_,e,hs,E,_⟩:=cA n;obtain⟨L,us,_,C,o,u,_⟩:=cA f;cases e;cases C;obtain rfl:=I.list_inj hs o;exact .inr (.inr ⟨xs,ys,_,_,_,rfl,rfl,E,u⟩)
 .have A:∀p,v ≠ .ref p:=λp e=>x ⟨p,e⟩;left;rcases J n t A with⟨rfl,h⟩|⟨b',rfl,h⟩|⟨i,rfl,h⟩|⟨z,rfl,h⟩<;>rcases J f l A with⟨rfl,k⟩|⟨O,rfl,k⟩|⟨j,rfl,k⟩|⟨y,rfl,k⟩<;>first|rfl|(have z:=h.symm.trans k;cases z;rfl)|(have z:=h.symm.trans k;cases z;done)
def Z6C(I:Inv X pins σ H s):∀(n:Nat) (a b x:D) (v:V) (f1 o:Ab Af) (k l:Bool),Rep X.K st1 H a v f1->Rep X.K st2 H b v o->eqN n a x=some k->eqN n b x=some l->k=l:=by
 intro n
 induction n with
 |zero=>intro a b x v f1 o k l _ _ e;simp[eqN]at e
 |succ n ih =>
  have q:∀(xs ys h:Ab D) (vs:Ab V) (f1 o:Ab Af) (k l:Bool),Reps X.K st1 H xs vs f1->Reps X.K st2 H ys vs o->eqL (eqN n) xs h=some k->eqL (eqN n) ys h=some l->k=l:=by
   intro xs
   induction xs with
   |nil =>
    intro ys h vs f1 o k l i j e f;have l1:=i.length;have l2:=j.length;have:ys=[]:=by rw[<- List.length_eq_zero_iff,<- l2,l1];rfl
    subst this;rw[e]at f;cases f;rfl
   |cons x xs ihx =>
    intro ys h vs f1 o k l i j e f;cases ys with
    |nil =>
     have l1:=i.length;have l2:=j.length;rw[l1]at l2;simp at l2
    |cons y ys =>
     cases h with
     |nil=>simp only[eqL]at e f;cases e;cases f;rfl
     |cons z h =>
      simp only[Reps]at i j;obtain⟨v,us,u,r,rfl,_,L,C⟩:=i;obtain⟨P,N,R,Q,B,_,M,G⟩:=j;cases B;simp only[eqL]at e f;split at e
      .rename_i c d h1 p;cases e;split at f
       .rename_i c' d' w t;cases f;rw[ih _ _ _ _ _ _ _ _ L M h1 w,ihx _ _ _ _ _ _ _ C G p t]
       .cases f
      .cases e
  intro a b x v f1 o k l F J e f;have A:=E4 e;have E:=E4 f;rcases Z5b I F J A E with rfl|⟨xs,ys,vs,u,r,rfl,rfl,i,j⟩|⟨xs,ys,vs,u,r,rfl,rfl,i,j⟩
  .rw[e]at f;cases f;rfl
  .have l1:=i.length;have l2:=j.length;cases x with
   |tup h =>
    simp only[eqN]at e f;cases h1:eqL (eqN n) xs h with
    |none=>rw[h1]at e;cases e
    |some c =>
     cases p:eqL (eqN n) ys h with
     |none=>rw[p]at f;cases f
     |some c' =>
      rw[h1]at e;rw[p]at f;cases e;cases f;rw[q _ _ _ _ _ _ _ _ i j h1 p,<- l1,<- l2]
   |non=>simp only[eqN]at e f;cases e;cases f;rfl
   |_=>simp only[eqN]at e;cases e
  .have l1:=i.length;have l2:=j.length;cases x with
   |lst h =>
    simp only[eqN]at e f;by_cases O:vs.length=h.length
    .rw[if_pos (by omega)]at e f;exact q _ _ _ _ _ _ _ _ i j e f
    .rw[if_neg (by omega)]at e f;cases e;cases f;rfl
   |non=>simp only[eqN]at e f;cases e;cases f;rfl
   |_=>simp only[eqN]at e;cases e
end
def inD(x:D):Ab D->Aa Bool
 |[]=>some false
 |y::ys=>match eqN 8 y x,inD x ys with
  |some a,some b=>some (a||b)
  |_,_=>none
theorem Z2B:∀{ys:Ab D}{k:Bool},inD x ys=some k->(∀(i:Nat) (y:D),ys[i]?=some y->∃c,eqN 8 y x=some c)/\(k=true↔∃(i:Nat) (y:D),ys[i]?=some y/\eqN 8 y x=some true)
 |[],k,h=>by simp only[inD]at h;cases h;exact⟨λi y e=>by simp at e,by simp⟩
 |y::ys,k,h=>by
  simp only[inD]at h;split at h
  .rename_i a b h1 o;cases h;obtain⟨l,n⟩:=Z2B o;refine⟨λi z e=>?_,?_⟩
   .cases i with
    |zero=>simp at e;subst e;exact⟨a,h1⟩
    |succ i=>exact l i z (by simpa using e)
   .rw[Bool.or_eq_true,n];constructor
    .rintro (z|⟨i,z,f,j⟩)
     .exact⟨0,y,rfl,by rw[h1,z]⟩
     .exact⟨i+1,z,by simpa using f,j⟩
    .rintro⟨i,z,f,j⟩;cases i with
     |zero=>simp at f;subst f;rw[h1]at j;cases j;exact .inl rfl
     |succ i=>exact .inr ⟨i,z,by simpa using f,j⟩
  .cases h
def Z6j(I:Inv X pins σ H s){A:Ai}{x:D}{ys:Ab D}{v:V}{vs:Ab V}{u:Ad}{its:Ab Ad}{f g:Ab Af}{k:Bool}(S:A.units+8<=cLine)(O:Rep X.K st1 H x v f)(N:RelV v u)(r:Reps X.K st2 H ys vs g)(w:Vals vs its)(h:inD x ys=some k) :
  ∃e:Ad->Bool,(∀y∈its,EqAt A s y u (e y))/\its.any e=k:=by
 obtain⟨h1,T⟩:=Z2B h
 classical
 have o:∀(i:Nat) (y:Ad),its[i]?=some y->∃(z:D) (l:V) (fz:Ab Af),ys[i]?=some z/\Rep X.K st2 H z l fz/\RelV l y:=by
  intro i y e;have hi:i<its.length:=(Qae.mp e).1;have l1:=r.length;have l2:=w.length;have p:i<ys.length:=by omega
  obtain⟨l,fz,t,a,_⟩:=r.get (Qaj p);obtain⟨y',b,q⟩:=w.get t;rw[e]at b;cases b;exact⟨_,l,fz,Qaj p,a,q⟩
 let e:Ad->Bool:=λy=>decide (∃(i:Nat) (z:D),its[i]?=some y/\ys[i]?=some z/\eqN 8 z x=some true)
 have C:∀(i:Nat) (y:Ad) (z:D) (c:Bool),its[i]?=some y->ys[i]?=some z->eqN 8 z x=some c->e y=c:=by
  intro i y z c t a n;by_cases B:∃(i:Nat) (z:D),its[i]?=some y/\ys[i]?=some z/\eqN 8 z x=some true
  .have:e y=true:=Rk B;rw[this];obtain⟨j,Y,U,Q,J⟩:=B;obtain⟨z1,R,Z,b,q,E⟩:=o i y t;obtain⟨z2,L,W,G,M,P⟩:=o j y U;rw[a]at b;cases b;rw[Q]at G;cases G;have F:R=L:=RelV.inj E P;subst F;exact(Z6C I 8 _ _ _ _ _ _ _ _ M q J n)
  .have:e y=false:=Rj B;rw[this];cases c with
   |false=>rfl
   |true=>exact absurd ⟨i,z,t,a,n⟩ B
 refine⟨e,λy p=>?_,?_⟩
 .obtain⟨i,hi⟩:=Qby p;obtain⟨z,l,g,b,q,E⟩:=o i y hi;obtain⟨c,hc⟩:=h1 i z b;rw[C i y z c hi b hc];exact(Z6B I 8 A z x l v y u g f c S q O E N hc).1
 .rw[Bool.eq_iff_iff,List.any_eq_true,T];constructor
  .rintro⟨y,p,he⟩;have:=of_decide_eq_true he;obtain⟨i,z,_,a,n⟩:=this;exact⟨i,z,a,n⟩
  .rintro⟨i,z,a,n⟩;have l1:=r.length;have l2:=w.length;have hi:i<its.length:=by have:=(Qae.mp a).1;omega
   exact⟨its[i],List.getElem_mem hi,by rw[C i _ z true (Qaj hi) a n]⟩
def inF:D->D->Aa Bool
 |x,.lst ys=>inD x ys
 |x,.tup ys=>inD x ys
 | .str i,.str j=>some (!(Builtin.Str.occurrences j i 0 j.length 1).isEmpty)
 |_,_=>none
def fIn(fa fb:En->Aa D):En->Aa Bool:=λenv=>match fa env,fb env with
 |some x,some y=>inF x y
 |_,_=>none
def Zc6(neg:Bool)(K:Frag):R2:=λv u H Q=>∃a b f1 f2 k st1 st2,Rep K st1 H a v f1/\Rep K st2 H b u f2/\inF a b=some k/\Q (.bl (if neg then !k else k)) H
def Z5Q(B:X.A.units+9<=cLine):OpR X (compareOp .In) (Zc6 false X.K):=by
 rintro pins s σ H x y v u Q I rx ry ⟨a,b,f1,f2,k,st1,st2,r1,r2,e,q⟩;cases b with
 |lst ys =>
  obtain⟨p,vs,_,rfl,hs,l,_⟩:=cA r2;cases ry;obtain⟨its,w,pl,r⟩:=I.list hs;obtain⟨f,h1,h⟩:=Z6j (A:=X.A.in1) I (by rw[uA];omega) r1 rx l w (show inD a ys=some k from e)
  refine SeqAt.in_listAt f pl.isList (λy hy=>h1 y (by simpa using hy)) ⟨.bl _,H,I,rfl,?_⟩;rw[show its.toArray.any f=its.any f by simp,h];exact q
 |tup ys =>
  simp only[Rep]at r2;obtain⟨p,vs,rfl,hs,l⟩:=r2;cases ry;obtain⟨its,w,pl,r⟩:=I.tuple hs;obtain⟨f,h1,h⟩:=Z6j (A:=X.A.in1) I (by rw[uA];omega) r1 rx l w (show inD a ys=some k from e)
  refine SeqAt.in_tupleAt f pl (λy hy=>h1 y (by simpa using hy)) ⟨.bl _,H,I,rfl,?_⟩;rw[show its.toArray.any f=its.any f by simp,h];exact q
 |str j =>
  cases a with
  |str i =>
   have n:=dD r1;have o:=dD r2;subst n o;have t:k=_:=(QaI e).symm;subst t;exact Z3P pins s σ H _ _ v u Q I rx ry ⟨i,j,rfl,rfl,q⟩
  |_=>simp only[inF]at e;cases e
 |_=>cases a<;>(simp only[inF]at e;cases e)
def zE(e:fIn fa fb env=some bb):∃x y,fa env=some x/\fb env=some y/\inF x y=some bb:=by
 unfold fIn at e;split at e
 .rename_i x y h1 a;exact⟨x,y,h1,a,e⟩
 .cases e
def Z5m(i:X.A.units+9<=cLine)(j:QE X m1 rs1 a fa)(l:QE X m2 rs2 b fb)(h:behindInMarks .In b=false:=by with_unfolding_all rfl):QT X (.Compare a [.In] [b] pos) (fIn fa fb) :=
 tH (Z5Q i) j l h (λenv x y K H v u f1 f2 Q bb e ea eb r1 r2 hK q=>by
  subst hK;obtain⟨o,p,h1,f,n⟩:=zE e;rw[ea]at h1;rw[eb]at f;cases h1;cases f;exact⟨x,y,f1,f2,bb,_,_,r1,r2,n,q⟩) λenv bb e=>let ⟨x,y,h1,f,_⟩:=zE e;⟨x,y,h1,f⟩
def Z90(i:X.A.units+9<=cLine)(l:QE X m1 rs1 a fa)(n:QE X m2 rs2 b fb)(f:behindInMarks .In b=false:=by with_unfolding_all rfl):QE X m rs (.Compare a [.In] [b] pos) (uJ (fIn fa fb)) :=
 .mk (N0 (Z5Q i) l n f) λσ H Q ⟨env,F,d,ok,e,q⟩=>by
  unfold uJ at e;cases h:fIn fa fb env with
  |none=>rw[h]at e;cases e
  |some k =>
   rw[h]at e;cases e;obtain⟨x,y,h1,j,o⟩:=zE h;exact two ok h1 j λv u H' f1 f2 s r1 r2 _ _=>⟨x,y,f1,f2,k,_,_,r1,r2,o,q _ _ _ s Y5 .nil⟩
def V8(r:Room k A):A.units+9<=cLine:=by have:=r.un;omega
open Classical in
def wC:Ab D->Aa D
 |[.int i]=>if i.natAbs.log2<1920 then some (.str (toString i)) else none
 |_=>none
def mS(h:Gl X "str")(f:X.mg "str" = none)(l:QE X m1 rs1 a fa)(he:starEach [a] X.env=(false,eval a X.env)::starEach [] X.env:=by rfl)(hpl:(backTo pos (starEach [] X.env)).any (·.1)=false:=by rfl) :
  QE X m rs (.Call (.Name "str" p) [a] [] pos) (λenv=>(aC fa aH env).bind wC) :=
 kA sL h f Z0o (aB l aW he) (λds d vs H fp Q e r q=>by
  unfold wC at e;split at e
  .split at e
   .rename_i i hi;cases e;obtain⟨v,rfl,j⟩:=gY r;rw[bP j];exact⟨i,rfl,hi,q _ _ [] (Same.refl H) lE (λb hb=>(by cases hb)) QaF⟩
   .cases e
  .cases e) (he:=he) (hpl:=hpl)
def J0:Ab D->Aa D
 |[.str x]=>if x.length<=640 then(PySem.intText? x).map .int else none
 |_=>none
def Z4j:CallR X (.type "int") (λxs H Q=>∃x n,xs=[.str x]/\PySem.intText? x=some n/\x.length<=640/\Q (.int n) H):=by
 intro pins s σ H xs us Q I r h;obtain⟨x,n,rfl,a,b,q⟩:=h;obtain⟨u,rfl,t,rfl⟩:=nQ r;exact PySem.W.KIN.call_text a b ⟨.int n,H,I.tok _,⟨_,rfl⟩,q⟩
def M6(j:Gl X "int")(h:X.mg "int" = none)(o:QE X m1 rs1 a fa)(he:starEach [a] X.env=(false,eval a X.env)::starEach [] X.env:=by rfl)(hpl:(backTo pos (starEach [] X.env)).any (·.1)=false:=by rfl) :
  QE X m rs (.Call (.Name "int" p) [a] [] pos) (λenv=>(aC fa aH env).bind J0) :=
 kA Z4j j h Z0q (aB o aW he) (λds d vs H fp Q e r q=>by
  unfold J0 at e;split at e
  .rename_i x;split at e
   .rename_i i;cases f:PySem.intText? x with
    |none=>rw[f]at e;cases e
    |some n =>
     rw[f]at e;cases e;obtain⟨v,rfl,l⟩:=gY r;rw[dD l];exact⟨x,n,rfl,f,i,q _ _ [] (Same.refl H) fM (λb hb=>(by cases hb)) QaF⟩
   .cases e
  .cases e) (he:=he) (hpl:=hpl)
def nS:Ab D->Aa (Ab Str)
 |[]=>some []
 | .str x::r=>(nS r).map (x :: ·)
 |_::_=>none
theorem C8{K:Frag}{st:Bool}{H:Hp}:∀{ds:Ab D}{ys:Ab Str}{vs:Ab V}{fp:Ab Af},nS ds=some ys->Reps K st H ds vs fp->vs=ys.map V.str
 |[],ys,vs,fp,e,r=>by simp only[nS]at e;cases e;simp only[Reps]at r;rw[r.1];rfl
 |d::ds,ys,vs,fp,e,r=>by
  simp only[Reps]at r;obtain⟨v,us,f1,f,rfl,rfl,b,a⟩:=r;cases d with
  |str x =>
   simp only[nS]at e;cases h:nS ds with
   |none=>rw[h]at e;cases e
   |some zs =>
    rw[h]at e;cases e;rw[dD b,C8 h a];rfl
  |_=>simp only[nS]at e;cases e
theorem xB:∀{ys:Ab Str}{us:Ab Ad},Vals (ys.map V.str) us->StrsAre us ys
 |[],_,.nil=>.nil
 |y::ys,_,.cons r w=>by obtain⟨t,rfl⟩:=r;exact .cons y t (xB w)
def Z9L(K:Frag):V->Ab V->Hp->VK->Prop:=λx vs H Q=>∃sep p ys,x=.str sep/\vs=[.ref p]/\SqL K H p (ys.map V.str)/\(ys.map (·.length)).sum+ys.length*sep.length<=16777216/\Q (.str (Txt.join sep ys)) H
def Z60:MtR X "str.join" (Z9L X.K):=by
 intro pins s σ H x vs v us Q I e f h;obtain⟨i,p,ys,rfl,rfl,hs,a,q⟩:=h;obtain⟨t,rfl⟩:=e;obtain⟨u,rfl,b⟩:=f.one;cases b;obtain⟨its,w,pl,_⟩:=I.list hs;exact PyProof.Rows.join_list pl.isList (ys:=ys) (xB w) a λt' k=>⟨.str _,H,I.tok _,⟨t',rfl⟩,q⟩
def iI(fa fb:En->Aa D):En->Aa D:=λenv=>match fa env,fb env with
 |some (.str x),some (.lst ds)=>match nS ds with
  |some ys=>if (ys.map (·.length)).sum+ys.length*x.length<=1000000 then some (.str (Txt.join x ys)) else none
  |none=>none
 |_,_=>none
def kW(n:QE X m1 rs1 o fo)(he:QE X m2 rs2 e fe)(b:attributeBase o "join" X.env (eval o X.env)=eval o X.env:=by rfl)
  (i:((backTo cpos (starEach [e] X.env)).all (fun x=>!x.1) && (backToKw cpos (keywordEach [] X.env)).all (fun x=>x.1.isSome)
   && decide ([e].length+([]:Ab Keyword).length+(if ([]:Ab Keyword).isEmpty then 0 else 1)<30))=true:=by rfl)
  (f:(apos.endLine==cpos.line)=true:=by rfl) (hs:starEach [e] X.env=(false,eval e X.env)::starEach [] X.env:=by rfl) (a:(backTo cpos (starEach [] X.env)).any (·.1)=false:=by rfl) :
  QE X m rs (.Call (.Attribute o "join" apos) [e] [] cpos) (iI fo fe) :=
 .mk (Z2m PySem.F.plainAttrs_str PySem.F.slot_str_join PySem.F.type_str_join Z60 n (aB he aW hs) b i f hs a) λσ H Q ⟨env,F,d,ok,e,q⟩=>by
  unfold iI at e;split at e
  .rename_i x ds j r;split at e
   .rename_i ys w;split at e
    .rename_i t;cases e;refine⟨env,F,_,ok,j,λv H1 f1 s1 r1 c1=>?_⟩;rw[dD r1];refine⟨rfl,env,F,[.lst ds],ok.same s1,by unfold aC aH;rw[r],λvs H2 f2 s2 r2 c2=>?_⟩;obtain⟨A,rfl,u⟩:=gY r2;obtain⟨p,ws,fp',rfl,h,y,l⟩:=cA u;rw[C8 w y]at h;exact⟨x,p,ys,rfl,rfl,h,QaC t (by decide),q _ _ _ (s1.trans s2) lE .nil⟩
    .cases e
   .cases e
  .cases e
def jE(x y:Str):Ab Str:=if (decide (x.length<y.length)||decide (Builtin.Str.strKind x<Builtin.Str.strKind y))=true then[x] else
 if (Builtin.Str.occurrences x y 0 x.length (x.length+1)).isEmpty=true then[x] else Builtin.Str.partsBetween x (Builtin.Str.occurrences x y 0 x.length (x.length+1)) y.length
theorem qC:∀(xs:Ab Str) (tk:Nat),Vals (xs.map V.str) (strsFrom tk xs)
 |[],_=>.nil
 |x::xs,tk=>.cons ⟨_,rfl⟩ (qC xs (tk+1))
def Z7J:V->Ab V->Hp->VK->Prop:=λx vs H Q=>∃z y,x=.str z/\vs=[.str y]/\(y.length==0)=false/\z.length<=sizeLine/\(jE z y).length<=sizeLine/\∀l,H l=none->Q (.ref l) (upd H l (.lst ((jE z y).map V.str)))
def Z3U:MtR X "str.split" Z7J:=by
 intro pins s σ H x vs v us Q I l o h;obtain⟨z,y,rfl,rfl,i,n,a,q⟩:=h;obtain⟨t,rfl⟩:=l;obtain⟨u,rfl,j⟩:=o.one;obtain⟨f,rfl⟩:=j;have b:=q s.heap.objs.size I.fresh;unfold jE at a b;cases h1:(decide (z.length<y.length)||decide (Builtin.Str.strKind z<Builtin.Str.strKind y)) with
 |true =>
  rw[h1,if_pos rfl]at a b;refine call_meets PySem.F.slot_str_split (typeIs_str _ _ _) PySem.F.entry_str_split (PySem.F.args_str_split_2 _ _) (meets_str_split_cannot_occur z y t f h1) ?_;exact⟨.ref _,_,I.lnew (t':=s.toks) (ys:=[V.str z]) (its:=[Value.str z t]) (.cons (show RelV (V.str z) (Value.str z t) from⟨t,rfl⟩) .nil) a,rfl,b⟩
 |false =>
  rw[h1,if_neg (by decide)]at a b;cases e:(Builtin.Str.occurrences z y 0 z.length (z.length+1)).isEmpty with
  |true =>
   rw[e,if_pos rfl]at a b;refine call_meets PySem.F.slot_str_split (typeIs_str _ _ _) PySem.F.entry_str_split (PySem.F.args_str_split_2 _ _) (meets_str_split_not_found z y t f h1 i e) ?_;exact⟨.ref _,_,I.lnew (t':=s.toks) (ys:=[V.str z]) (its:=[Value.str z t]) (.cons (show RelV (V.str z) (Value.str z t) from⟨t,rfl⟩) .nil) a,rfl,b⟩
  |false =>
   rw[e,if_neg (by decide)]at a b;refine call_meets PySem.F.slot_str_split (typeIs_str _ _ _) PySem.F.entry_str_split (PySem.F.args_str_split_2 _ _) (meets_str_split_sep z y t f h1 i e n a) ?_;exact⟨.ref _,_,I.lnew (its:=strsFrom s.toks _) (qC _ _) (by rw[Qaa];exact a),rfl,b⟩
def nC(fa fb:En->Aa D):En->Aa D:=λenv=>match fa env,fb env with
 |some (.str x),some (.str y)=>if (y.length==0)=false/\x.length<=5000/\(jE x y).length<=1000 then some (.lst ((jE x y).map .str)) else none
 |_,_=>none
theorem D7{K:Frag}{H:Hp}{st:Bool}:∀(ys:Ab Str),Reps K st H (ys.map D.str) (ys.map V.str) []
 |[]=>by simp only[QaT,Reps];exact⟨trivial,trivial⟩
 |n::ns=>by simp only[Qak,Reps];exact⟨.str n,ns.map V.str,[],[],rfl,rfl,lE,D7 ns⟩
def rP(t:QE X m1 rs1 o fo)(he:QE X m2 rs2 e fe)(f:attributeBase o "split" X.env (eval o X.env)=eval o X.env:=by rfl)
  (j:((backTo cpos (starEach [e] X.env)).all (fun x=>!x.1) && (backToKw cpos (keywordEach [] X.env)).all (fun x=>x.1.isSome)
   && decide ([e].length+([]:Ab Keyword).length+(if ([]:Ab Keyword).isEmpty then 0 else 1)<30))=true:=by rfl)
  (h:(apos.endLine==cpos.line)=true:=by rfl) (hs:starEach [e] X.env=(false,eval e X.env)::starEach [] X.env:=by rfl) (a:(backTo cpos (starEach [] X.env)).any (·.1)=false:=by rfl) :
  QE X m rs (.Call (.Attribute o "split" apos) [e] [] cpos) (nC fo fe) :=
 .mk (Z2m PySem.F.plainAttrs_str PySem.F.slot_str_split PySem.F.type_str_split Z3U t (aB he aW hs) f j h hs a) λσ H Q ⟨env,F,d,ok,e,q⟩=>by
  unfold nC at e;split at e
  .rename_i x y p n;split at e
   .rename_i i;cases e;refine⟨env,F,_,ok,p,λv H1 f1 s1 r1 c1=>?_⟩;rw[dD r1];refine⟨rfl,env,F,[.str y],ok.same s1,by unfold aC aH;rw[n],λvs H2 f2 s2 r2 c2=>?_⟩;obtain⟨u,rfl,r⟩:=gY r2;rw[dD r];refine⟨x,y,rfl,rfl,i.1,QaC i.2.1 (by decide),jT i.2.2,λl hn=>?_⟩;refine q _ _ [l] ((s1.trans s2).trans (bU hn)) (iO hn (D7 _)) ⟨λb hb=>.inl ?_,λ_=>⟨by simp,λb hb=>?_⟩⟩
    .have:b=l:=by simpa using hb
     rw[this];exact(s1.trans s2).free hn
    .have:b=l:=by simpa using hb
     rw[this];exact(s1.trans s2).free hn
   .cases e
  .cases e
def jP:Ab D->Aa (Ab Bool)
 |[]=>some []
 | .bl x::r=>(jP r).map (x :: ·)
 |_::_=>none
theorem zN{K:Frag}{st:Bool}{H:Hp}:∀{ds:Ab D}{ys:Ab Bool}{vs:Ab V}{fp:Ab Af},jP ds=some ys->Reps K st H ds vs fp->vs=ys.map V.bl
 |[],ys,vs,fp,e,r=>by simp only[jP]at e;cases e;simp only[Reps]at r;rw[r.1];rfl
 |d::ds,ys,vs,fp,e,r=>by
  simp only[Reps]at r;obtain⟨v,us,f1,f,rfl,rfl,b,a⟩:=r;cases d with
  |bl x =>
   simp only[jP]at e;cases h:jP ds with
   |none=>rw[h]at e;cases e
   |some zs =>
    rw[h]at e;cases e;rw[kF b,zN h a];rfl
  |_=>simp only[jP]at e;cases e
theorem Z0r:∀{ys:Ab Bool}{us:Ab Ad},Vals (ys.map V.bl) us->us=ys.map Value.bool
 |[],_,.nil=>rfl
 |y::ys,_,.cons r w=>by cases r;rw[Z0r w];rfl
def Z3z(ys:Ab Bool):((List.range ys.length).all λi=>ys.getD i true)=ys.all id:=by
 rw[Bool.eq_iff_iff,Qa9,Qa9];constructor
 .intro h y b;obtain⟨i,hi⟩:=Qby b;have:=h i (by simpa using(Qae.mp hi).1);simpa[List.getD,hi]using this
 .intro h i hi;have a:i<ys.length:=by simpa using hi
  have:=h ys[i] (List.getElem_mem a);simpa[List.getD,a]using this
def Z4l(hc:X.calm=true):CallR X (.builtin "all") (λvs H Q=>∃(a:Af) (ys:Ab Bool),vs=[.ref a]/\SqL X.K H a (ys.map V.bl)/\Q (.bl (ys.all id)) H):=λpins s σ H xs us Q I w h=>by
 obtain⟨a,ys,rfl,hs,q⟩:=h;obtain⟨u,rfl,r⟩:=nQ w;cases (show u=Value.ref a from r)
 obtain⟨its,w1,pl,_⟩:=I.list hs;have G:=Z0r w1;subst G;have j:=pl.isList;obtain⟨o,B,_⟩:=id j;have t:a≠s.heap.objs.size:=QaM (Qal B);refine call_all_walk (wpAny_pyIter_list j ?_);refine⟨s.heap.objs.size,_,_,_,_,_,λi=>ys.getD i true,rfl,Walks.list (A:=X.A.in1) (I.ok.hd hc) s.heap.objs.size a t (ys.map Value.bool).toArray,⟨⟨_,Qap _ rfl,rfl,rfl⟩,j.at λo e=>Qac _ e⟩,?_,λh' tk hk=>?_⟩
 .intro i v s' E J F hq;have f:(ys.map Value.bool)[i]?=some v:=by simpa using F
  rw[QaA]at f;cases l:ys[i]? with
  |none=>rw[l]at f;cases f
  |some y =>
   rw[l]at f;cases f;have p:E y s':=by simpa[List.getD,l]using hq
   exact wpAny_truthy_bool p
 .have n:∀b o,s.heap.get? b=some o->h'.get? b=some o:=λb o e=>hk b o (λC=>by
   have:b=s.heap.objs.size:=by simpa using C
   exact absurd (Qal e) (by rw[this];exact Qbg _)) (Qac _ e)
  refine⟨.bl (ys.all id),H,I.kept n,?_,q⟩;have x:=Z3z ys;show Value.bool _=Value.bool _;rw[<- x];simp
def Z4E:Ab D->Aa D
 |[.lst ds]=>(jP ds).map λys=>.bl (ys.all id)
 |_=>none
def Z5x(h:X.calm=true)(o:Gl X "all")(n:X.mg "all" = none)(j:QE X m1 rs1 a fa)(he:starEach [a] X.env=(false,eval a X.env)::starEach [] X.env:=by rfl)(hpl:(backTo pos (starEach [] X.env)).any (·.1)=false:=by rfl) :
  QE X m rs (.Call (.Name "all" p) [a] [] pos) (λenv=>(aC fa aH env).bind Z4E) :=
 nW (Z4l h) o n PyProof.Rows.boot_all (aB j aW he) (λds d vs H fp Q e r q=>by
  unfold Z4E at e;split at e
  .rename_i i;cases hq:jP i with
   |none=>rw[hq]at e;cases e
   |some ns =>
    rw[hq]at e;cases e;obtain⟨v,rfl,t⟩:=gY r;obtain⟨p,ws,fp',rfl,f,u,l⟩:=cA t;rw[zN hq u]at f;exact⟨p,ns,rfl,f,q _ _ [] (Same.refl H) Y5 (λb hb=>(by cases hb)) QaF⟩
  .cases e) (he:=he) (hpl:=hpl)
def Its(x:Str):It:=⟨λi _=>i<x.cps.size,λi H v H'=>H'=H/\∃c,x.cps[i]?=some c/\v=.str ⟨#[c]⟩,λi _=>x.cps.size<=i⟩
def Z4O{P:Aj}{w:Ak}{K:Frag}{tg:Ag}(x:Str)(t:Tok)(it:Af):R6 P w K tg (Its x) [it] it (λi h=>h.IsStrIter it "str_ascii_iterator" x t i) where
 mem:=by simp
 obj:=λi h st b hb=>by
  have e:b=it:=by simpa using hb
  subst e;obtain⟨o,e,c,d⟩:=st;exact⟨o,e,λv z=>by rw[d]at z;cases z⟩
 keep:=λi h h' st k=>by
  obtain⟨o,e,c,d⟩:=st;exact⟨o,k it (by simp) o e,c,d⟩
 item:=by
  intro X r hw j hc i pins s σ H E I a st n;subst r hw j;obtain⟨l,f1,B,q,p,u⟩:=a it (by simp);have y:i<x.cps.size:=n;have f:x.cps[i]?=some x.cps[i]:=Array.getElem?_eq_getElem y;refine wpAny_pyNext_ascii_item st f λh' st' sb=>?_;have A:Inv X pins σ H { s with heap:=h',toks:=s.toks+1 }:=I.turned (t':=s.toks+1) (λb o hb e=>(sb.2 b hb).trans e) l f1 q p u;obtain⟨o,e,c,d⟩:=id st';exact⟨_,rfl,Z00 (s:={ s with heap:=h',toks:=s.toks+1 }) e c d (by decide) ⟨.str ⟨#[x.cps[i]]⟩,H,A,⟨_,rfl⟩,⟨rfl,_,f,rfl⟩,st',λb hb=>(a b hb).1⟩⟩
 done:=by
  intro X r hw j hc i pins s σ H E I a st n;subst r hw j;obtain⟨l,f1,B,q,p,u⟩:=a it (by simp);have f:x.cps[i]?=none:=by simp[show x.cps.size<=i from n]
  exact wpAny_pyNext_ascii_end (I.ok.hd hc) st f λh' eb=>⟨rfl,I.turned (t':=s.toks) (λb o hb e=>eb b o hb e) l f1 q p u⟩
 self:=λ_ _ _ _ _ st h=>wpAny_pyIter_striter_ascii st h
def Zc9(tl:TE):TI:=λσ H R=>tl σ H λv H1=>∃x,v=.str x/\x.cps.all (· < 128)=true/\R (Its x) H1
def Za0{l:Ag}{tl:TE}(a:PE X l tl):PI X tg l (Zc9 tl):=by
 intro pins s σ H R I h;refine thn (a pins s σ H _ I h) λv s1 ⟨x,H1,I1,r1,q1⟩=>?_;obtain⟨z,rfl,f,q⟩:=q1;obtain⟨t,rfl⟩:=r1;refine wpAny_pyIter_ascii f ?_;refine⟨s1.heap.objs.size,[s1.heap.objs.size],_,_,H1,rfl,I1.kept (t':=s1.toks) λb o e=>Qac _ e,Z4O z t _,⟨_,Qap _ rfl,rfl,rfl⟩,λb hb=>?_,q⟩;have e:b=s1.heap.objs.size:=by simpa using hb
 subst e;exact I1.fpOk (Qan _) (I1.hok.fresh (Qan _))
def qG(x:Str):Ab D:=x.cps.toList.map λc=>.str ⟨#[c]⟩
def Z44{K:Frag}{e:Hp}(x:Str):vR K (Its x) e (qG x) []:=λH k i=>by
 refine⟨λd hd=>?_,λf=>(show x.cps.size<=i by simpa[qG]using f)⟩;unfold qG at hd;rw[QaA]at hd;cases a:x.cps.toList[i]? with
 |none=>rw[a]at hd;cases hd
 |some c =>
  rw[a]at hd;cases hd;have hc:x.cps[i]?=some c:=by simpa using a
  refine⟨(show i<x.cps.size by have:=(Qae.mp a).1;simpa using this),λv H' y=>?_⟩;obtain⟨rfl,c',h1,rfl⟩:=y;rw[hc]at h1;cases h1;exact⟨Same.refl _,[],lE,λb hb=>hb⟩
def sH(fa:En->Aa D):En->Aa (Ab D):=λenv=>match fa env with
 |some (.str x)=>if x.cps.all (· < 128)=true then some (qG x) else none
 |_=>none
def Z13(f:QE X m1 rs a fa):QI X tg [] a (sH fa) :=
 .mk (Za0 f) λσ H R ⟨env,F,ds,ok,e,q⟩=>by
  unfold sH at e;split at e
  .rename_i x h1;split at e
   .rename_i h;cases e;refine⟨env,F,_,ok,h1,λv H' fp s r c=>?_⟩;rw[dD r];exact⟨x,rfl,h,q _ H' [] s (Z44 x) (λb hb=>(by cases hb)) .nil⟩
   .cases e
  .cases e
def esK:Ab (Str×Int)->Ab DictEntry->Prop
 |[],[]=>True
 |p::kvs,e::es=>((∃t,e.key=.str p.1 t)/\∃t,e.val=.int p.2 t)/\esK kvs es
 |_,_=>False
structure Z9i(K:Frag)(P:Params)(mg:Str->Option Value)(name:Str)(kvs:List (Str×Int)):Prop where
 ex:∃a es n,mg name=some (.ref a)/\K.lookup a=some ⟨.type "dict",none,.dict es n,#[]⟩/\PySem.W.KeysLit P es.toList/\(a==sysModules)=false/\esK kvs es.toList
theorem Z0f:∀{kvs:Ab (Str×Int)}{es:Ab DictEntry},esK kvs es->match kvs.lookup x with
  |some i=>∃t,((es.find? λe=>Value.isStrOf x e.key).map (·.val))=some (.int i t)
  |none=>((es.find? λe=>Value.isStrOf x e.key).map (·.val))=none
 |[],[],_=>rfl
 |[],_::_,h=>h.elim
 |_::_,[],h=>h.elim
 |(k,i)::kvs,e::es,⟨⟨⟨t,hk⟩,t2,hv⟩,r⟩=>by
  have f:=Z0f (x:=x) r;have hs:Value.isStrOf x e.key=(x==k):=by
   rw[hk];show(k==x)=(x==k);cases h1:k==x with
   |true=>rw[eq_of_beq h1];exact(beq_self_eq_true x).symm
   |false =>
    cases b:x==k with
    |false=>rfl
    |true=>rw[eq_of_beq b,beq_self_eq_true]at h1;cases h1
  cases a:x==k with
  |true =>
   simp only[QaL,a];rw[a]at hs;exact⟨t2,by rw[Qa0,hs];simp only[Qav,hv]⟩
  |false =>
   simp only[QaL,a];rw[a]at hs;rw[Qa0,hs];exact f
section
variable {X:Cx}{m m1:Bool}{rs rs1:Ab Nat}{e:Ag}{fe:En->Aa D}{p apos cpos:Pos}{nm:Str}{kvs:Ab (Str×Int)}
def Z0D(kvs:Ab (Str×Int)):Ab D->Aa D
 |[.str x]=>some (match kvs.lookup x with|some i=>.int i|none=>.non)
 |_=>none
def Z7V(T:Z9i X.K X.w.params X.mg nm kvs)(R:Gl X nm)(he:QE X m1 rs1 e fe)(G:nDb nm:=by decide)(j:attributeBase (.Name nm p) "get" X.env (eval (.Name nm p) X.env)=eval (.Name nm p) X.env:=by rfl)
  (A:((backTo cpos (starEach [e] X.env)).all (fun x=>!x.1) && (backToKw cpos (keywordEach [] X.env)).all (fun x=>x.1.isSome)
   && decide ([e].length+([]:Ab Keyword).length+(if ([]:Ab Keyword).isEmpty then 0 else 1)<30))=true:=by rfl)
  (h:(apos.endLine==cpos.line)=true:=by rfl) (f:backTo cpos (starEach [e] X.env)=[(false,eval e X.env)]:=by rfl) :
  QE X m rs (.Call (.Attribute (.Name nm p) "get" apos) [e] [] cpos) (λenv=>(aC fe aH env).bind (Z0D kvs)):=by
 intro pins s σ H Q I ⟨env,F,d,ok,ee,q⟩;obtain⟨a,es,n,P,C,N,lo,E⟩:=T.ex;have M:∀{s':Ac}{H':Hp},Inv X pins σ H' s'->X.K.In s'.heap:=λS=>S.kIn;refine wpAny_Call_method j A h PySem.F.plainAttrs_dict PySem.F.slot_dict_get PySem.F.type_dict_get (thn (wM (v:=.ref a) R P rfl G pins s σ H (λv H1=>v=.ref a/\H1=H) I ⟨rfl,rfl⟩) λu s1 ⟨x,H1,I1,rx,⟨ex,eH⟩⟩=>?_);subst ex eH;obtain rfl:u=Value.ref a:=rx;have o:=PySem.W.mapOf_K (prog:=X.prog) (w:=X.w) (M I1) C N;refine⟨o.typeIs,o.noDict,?_⟩;rw[f];cases h1:fe env with
 |none=>simp only[aC,h1]at ee;cases ee
 |some dx =>
  simp only[aC,aH,h1,Qa3]at ee;cases dx with
  |str x =>
   simp only[Z0D]at ee;refine Calls.callWith_builtin rfl (Calls.evalArgs_plain (Calls.spliced_cons (thn (he pins s1 σ H1 (λv H2=>v=.str x/\Same H1 H2) I1 ⟨env,F,_,ok,h1,λv H2 fp s2 r c=>⟨dD r,s2⟩⟩) λiv s2 ⟨y,H2,I2,ry,ey,sm⟩=>Calls.spliced_nil ?_)));subst ey;obtain⟨t,rfl⟩:=ry;have l:=PySem.W.mapOf_K (prog:=X.prog) (w:=X.w) (M I2) C N;refine call_meetsIn PySem.F.slot_dict_get l.typeIs PySem.F.entry_dict_get (PySem.F.args_dict_get_2 _ _) (meets_dict_get (strKind X.prog X.w) a (strKind_is X.prog X.w x t) lo) ⟨_,l,?_⟩;have b:=Z0f (x:=x) E;have J:findBy Value.isStrOf es x=((es.toList.find? λe=>Value.isStrOf x e.key).map (·.val)):=by
    unfold findBy;rw[<- Array.find?_toList]
   rw[J];cases L:kvs.lookup x with
   |none =>
    rw[L]at b ee;have B:d=.non:=(QaI ee).symm;subst B;rw[b];exact⟨.non,H2,I2.tok _,rfl,q _ H2 [] sm tM .nil⟩
   |some i =>
    rw[L]at b ee;have B:d=.int i:=(QaI ee).symm;subst B;obtain⟨O,b⟩:=b;rw[b];exact⟨.int i,H2,I2.tok _,⟨O,rfl⟩,q _ H2 [] sm fM .nil⟩
  |_=>simp only[Z0D]at ee;cases ee
end
structure Zco(K:Frag)(C:Addr):Prop where
 cl:Cls K C
 ha:PySem.W.findIn K (.ref C) "__class__" = some (some (.builtin "object.__class__"))
 hn:PySem.W.specialIn K (.builtin "object.__class__") "__get__" = some (some (.builtin "getset_descriptor.__get__"))
 htk:PySem.W.takesIn K (.builtin "object.__class__")=some true
 hm:PySem.W.mroIn K C (.type "object")=some true
section
variable {X:Cx}{e:Ag}{f:En->Aa D}{p pos pos' bpos:Pos}{x y:Str}{i j:Nat}
def gJ(j i:Nat)(f:En->Aa D):En->Res:=λenv=>match env[i]?,f env with
 |some (some (true,.lst xs)),some (.lst ys)=>if flats xs=true/\xs.length+ys.length<=1000 then .next (env.set j (some (true,.lst (xs++ys)))) else .bad
 |_,_=>.bad
def Z6M{K:Frag}{P H:Hp}{σ:L2.St}{env:En}{F:Nat->Ab Af}{xs ys:Ab D}{Q:VK}(hF:EnvS K P H σ env F)(n:env[i]?=some (some (true,.lst xs)))(A:f env=some (.lst ys))(G:flats xs=true)(B:xs.length+ys.length<=1000)
  (q:∀v H' fp,Same H H'->Rep K true H' (.lst (xs++ys)) v fp->fp.Nodup->(∀b∈fp,H b=none)->Q v H'):∃v,σ[i]?=some (some v)/\tD K true [] f σ H λu H2=>Zb0 v u H2 Q:=by
 obtain⟨v,j,_⟩:=hF.ok i true _ n;obtain⟨M,I,E,J⟩:=hF.own i _ n;obtain⟨a,vs,L,rfl,N,y,t⟩:=hG (E v j);obtain⟨rfl,w⟩:=Reps.flat _ _ _ G t;refine⟨.ref a,j,env,F,.lst ys,hF.ok,A,λu H2 f2 s2 r2 c2=>?_⟩;obtain⟨b,us,r,rfl,rfl,C,e⟩:=hG r2;have l:=c2.2 rfl;refine⟨a,b,vs,us,rfl,rfl,s2 _ _ y,C,jT (by rw[t.length,e.length];exact B),λp hp=>?_⟩;have h:Reps K true H2 (xs++ys) (vs++us) ([]++r):=((w true).same s2).append e;rw[Qbq]at h;refine q _ _ (p::r) (s2.trans (bU hp)) (iO hp h) ?_ λc hc=>?_
 .refine Qax.mpr ⟨λz=>?_,(Qax.mp l.1).2⟩;obtain⟨o,x⟩:=Reps.dom _ _ _ e p z;rw[hp]at x;cases x
 .rcases Qad.mp hc with z|z
  .rw[z];exact s2.free hp
  .exact l.2 c (Qab _ z)
def mB(j i:Nat)(a:X.N.Nodup)(o:X.N[j]?=some y)(A:Loc X.env.scope y)(he:QE X true [] e f)(n:X.N[i]?=some x:=by rfl)(w:Vis X.env.scope x:=by first|exact Or.inl rfl|exact Or.inr (Or.inl rfl)|exact Or.inr (Or.inr rfl))(hd:nDb x:=by decide)(b:(x==("__classdict__" : Str))=false:=by decide)
  (hs:swapsWith (.BinOp (.Name x p) .Add e bpos) (some (.Name y pos')) pos.line X.env=pure false:=by rfl) (u:X.fn y=true\/X.env.scope.names.lookup y=some .local:=by first|exact .inl rfl|exact .inr rfl|assumption) :
  QS X (.Assign [.Name y pos'] (.BinOp (.Name x p) .Add e bpos) pos) (gJ j i f):=.mk (M7 a o A (L2.pe_op Z5R (jG n w hd b) he) hs u) λE σ H ⟨P,env,I,q⟩=>by
 obtain⟨F,hF⟩:=I.ex;unfold gJ at q;split at q
 .rename_i xs ys l t;split at q
  .rename_i h;exact Z6M hF.nrm l t h.1 h.2 λv H' fp s r nd fr=>q _ _ (pG j I.same I.len hF.nrm s r nd fr)
  .exact q.elim
 .exact q.elim
end
def vS:isSubtype (.type "range_iterator") (.type "reversed")=pure false:=by rw[isSubtype_type];kernel_rfl
def Z5a(h1:-(2^62)<=b)(a:b<2^62):(Builtin.Range.rangeFitsLong 0&&Builtin.Range.rangeFitsLong b&&Builtin.Range.rangeFitsLong 1&&Builtin.Range.rangeFitsLong (-1)&&Builtin.Range.rangeFitsLong (0-1)&&Builtin.Range.rangeFitsLong (Builtin.Range.rangeSize 0 b 1))=true:=by
 rw[rangeSize_one];simp only[Builtin.Range.rangeFitsLong,QaE,Rl];split<;>omega
def zJ(e:IsRange s.heap r 0 b 1 t u v)(h1:-(2^62)<=b)(i:b<2^62)
  (h:Q (.ref s.heap.objs.size) { s with heap:=s.heap.push { cls:=.type "range_iterator",data:=.fields #[rawInt (0+(Builtin.Range.rangeSize 0 b 1-1)*1),rawInt (Builtin.Range.rangeSize 0 b 1),rawInt (-1)] } }) :
  wpAny (model prog w) A (call (.builtin "range.__reversed__") [.ref r]) Q E s:=by
 have f:s.TypeIs (.ref r) "range":=⟨_,e,rfl⟩;refine Rg F.slot_range_reversed f F.entry_range_reversed ?_ (F.args_range_reversed_1 _);unfold Builtin.«range.__reversed__»;refine Ra (Rh (a:=Value.ref r) rfl ?_);have hs:=Z5a h1 i;unfold Builtin.Range.rangeFields;refine Ra ?_;refine Ra (wpAny_field e rfl (x:=.int 0 t) rfl ?_);refine Ra (Rh (a:=some 0) rfl ?_);refine Ra (wpAny_field e rfl (x:=.int b u) rfl ?_);refine Ra (Rh (a:=some b) rfl ?_);refine Ra (wpAny_field e rfl (x:=.int 1 v) rfl ?_);refine Ra (Rh (a:=some 1) rfl ?_);refine Rb ?_;simp only[hs,Bool.not_true,QaZ,Rn,Rm]
 first
  |exact Ra (Re (Rb ⟨_,rfl,h⟩))
  |exact Ra (Rb (Ra (Re (Rb ⟨_,rfl,h⟩))))
  |(unfold newFields;exact Ra (Re (Rb ⟨_,rfl,h⟩)))
  |(unfold newFields;exact Ra (Rb (Ra (Re (Rb ⟨_,rfl,h⟩)))))
def sK(e:IsRange s.heap r 0 b 1 t u v)(h1:-(2^62)<=b)(i:b<2^62)
  (h:Q₁ (.ref s.heap.objs.size) { s with heap:=s.heap.push { cls:=.type "range_iterator",data:=.fields #[rawInt (0+(Builtin.Range.rangeSize 0 b 1-1)*1),rawInt (Builtin.Range.rangeSize 0 b 1),rawInt (-1)] } }) :
  codeAny (model prog w) A (.call (.builtin "reversed.__new__") ⟨[.type "reversed",.ref r],[]⟩) (wants Q₁ E) s:=by
 have f:s.TypeIs (.ref r) "range":=⟨_,e,rfl⟩;refine codeAny_of_tree ?_;show wpAny _ A.in1 (do checkBuiltinCall "reversed.__new__" ⟨[.type "reversed",.ref r],[]⟩;again (.builtin "reversed.__new__" ⟨[.type "reversed",.ref r],[]⟩)) _ _ s
 refine Ra (Rh (F.newCall_reversed_1 _) (Rb ⟨plainId_quiet F.plain_reversed_new _,codeAny_builtin F.entry_reversed_new ?_⟩));rw[Around.under_plainId F.plain_reversed_new _];unfold Builtin.«reversed.__new__»;refine Ra (Rh (newClass_reversed _) ?_)
 try dsimp only
 refine Ra (Rh (a:=()) (by first|rfl|kernel_rfl) ?_)
 refine Ra (Rh (a:=()) (by first|rfl|kernel_rfl) ?_)
 try dsimp only
 refine Ra (wpAny_specialOf f F.slot_range_reversed.lookup ?_)
 try dsimp only
 refine Ra (Rh (F.slot_range_reversed.bind _) ?_)
 try dsimp only
 first
 |rw[if_neg (show ¬((Value.builtin "range.__reversed__" == Value.none)=true) from Qbb)]
 |(show wpAny _ _ (if (Value.builtin "range.__reversed__" == Value.none)=true then _ else _) _ _ _;rw[if_neg (show ¬((Value.builtin "range.__reversed__" == Value.none)=true) from Qbb)])
 refine Ra (wpAny_rule ?_);refine Ra (m:=runValue (.call (.builtin "range.__reversed__") ⟨[.ref r],[]⟩)) (show wpAny _ _ (call (.builtin "range.__reversed__") [.ref r]) _ _ _ from zJ e h1 i ?_)
 first
 |exact Rb h
 |exact Ra (Rb (Rb h))
def sM(e:IsRange s.heap r 0 b 1 t u v)(h1:-(2^62)<=b)(a:b<2^62)
  (h:Q (.ref s.heap.objs.size) { s with heap:=s.heap.push { cls:=.type "range_iterator",data:=.fields #[rawInt (0+(Builtin.Range.rangeSize 0 b 1-1)*1),rawInt (Builtin.Range.rangeSize 0 b 1),rawInt (-1)] } }) :
  wpAny (model prog w) A (call (.type "reversed") [.ref r]) Q E s:=by
 refine callType_other (U := "range_iterator") (Q₁:=λobj s₁=>obj=.ref s.heap.objs.size/\s₁={ s with heap:=s.heap.push { cls:=.type "range_iterator",data:=.fields #[rawInt (0+(Builtin.Range.rangeSize 0 b 1-1)*1),rawInt (Builtin.Range.rangeSize 0 b 1),rawInt (-1)] } }) (by decide +kernel) F.create_reversed ⟨_,_,F.mro_reversed⟩ F.made_reversed vS (F.typeCall_reversed_1 _) (sK e h1 a ⟨rfl,rfl⟩) ?_;rintro obj s₁ ⟨rfl,rfl⟩;exact⟨⟨_,Qap _ rfl,rfl⟩,h⟩
def Itd(lo:Int)(n:Nat):It:=⟨λi _=>i<n,λi H x H'=>H'=H/\x=.int (lo-i),λi _=>n<=i⟩
def C5{K:Frag}(it:Af)(lo:Int)(n:Nat):R6 P w K tg (Itd lo n) [it] it (λi h=>IsRangeIter h it (lo+(i:Nat)*(-1)) ((n:Int)-(i:Nat)) (-1)) where
 mem:=by simp
 obj:=λi h st b hb=>by
  have e:b=it:=by simpa using hb
  subst e;exact⟨_,st,λv z=>by
   have A:Data.fields _=Data.cell v:=z;cases A⟩
 keep:=λi h h' st k=>k it (by simp) _ st
 item:=by
  intro X r hw j hc i pins s σ H E I a st u;subst r hw j;obtain⟨l,f1,x,q,p,f⟩:=a it (by simp);have W:=Walks.range (prog:=X.prog) (w:=X.w) (I.ok.hd hc) it lo (-1) n;refine W.item i s _ _ u st λv h' tk hv st' kk=>?_;obtain⟨t,rfl⟩:=hv;have y:Inv X pins σ H { s with heap:=h',toks:=tk }:=I.turned (λb o hb e=>kk b o (by simpa using hb) e) l f1 q p f;refine⟨_,rfl,Z00 (s:={ s with heap:=h',toks:=tk }) (n := "range_iterator") st' rfl rfl (by decide) ⟨.int (lo-i),H,y,⟨t,?_⟩,⟨rfl,rfl⟩,st',λb hb=>(a b hb).1⟩⟩;rw[show lo+(i:Int) * -1=lo-i by omega]
 done:=by
  intro X r hw j hc i pins s σ H E I a st u;subst r hw j;obtain⟨l,f1,x,q,p,f⟩:=a it (by simp);exact wpAny_pyNext_range_end (I.ok.hd hc) st (by have:n<=i:=u;omega) λh' eb=>⟨rfl,I.turned (t':=s.toks) (λb o hb e=>eb b o hb e) l f1 q p f⟩
 self:=λ_ _ _ _ _ st h=>wpAny_pyIter_rangeiter st h
def B9:bootBuiltins "reversed" = some (.type "reversed"):=by decide +kernel
def Zbk(ta:TA):TI:=λσ H R=>ta σ H λvs H1=>∃j:Int,vs=[.int j] /\ -(2^62)<=j/\j<2^62/\R (Itd ((j.toNat:Int)-1) j.toNat) H1
def Z9C{H:Hp}(I:Inv X pins σ H s)(n:-(2^62)<=hi)(i:hi<2^62)
  (q:R (Itd ((hi.toNat:Int)-1) hi.toNat) H):wpAny (model X.prog X.w) X.A (call (.type "reversed") [.ref s.heap.objs.size]) (λv s1=>wpAny (model X.prog X.w) X.A (pyIter v) (PIE X pins σ tg R) E s1) E { s with heap:=s.heap.push { cls:=.type "range",data:=.fields #[.int 0 t,.int hi u,.int 1 v] },toks:=tk }:=by
 refine sM (IsRange.new ..) n i ?_;have f:Inv X pins σ H { s with heap:=s.heap.push { cls:=.type "range",data:=.fields #[.int 0 t,.int hi u,.int 1 v] },toks:=tk }:=I.kept λb o e=>Qac _ e;have h:((hi.toNat:Nat):Int)=Builtin.Range.rangeSize 0 hi 1:=by rw[rangeSize_one];split<;>omega
 have a:IsRangeIter ((s.heap.push { cls:=.type "range",data:=.fields #[.int 0 t,.int hi u,.int 1 v] }).push { cls:=.type "range_iterator",data:=.fields #[rawInt (0+(Builtin.Range.rangeSize 0 hi 1-1)*1),rawInt (Builtin.Range.rangeSize 0 hi 1),rawInt (-1)] }) (s.heap.push { cls:=.type "range",data:=.fields #[.int 0 t,.int hi u,.int 1 v] }).objs.size (((hi.toNat:Int)-1)+((0:Nat):Int)*(-1)) (((hi.toNat:Nat):Int)-((0:Nat):Int)) (-1):=by
  have l:((hi.toNat:Int)-1)+((0:Nat):Int)*(-1)=0+(Builtin.Range.rangeSize 0 hi 1-1)*1:=by rw[<- h];omega
  have j:((hi.toNat:Nat):Int)-((0:Nat):Int)=Builtin.Range.rangeSize 0 hi 1:=by rw[<- h];omega
  rw[l,j];exact Qap _ rfl
 refine wpAny_pyIter_rangeiter a ?_;refine⟨(s.heap.push { cls:=.type "range",data:=.fields #[.int 0 t,.int hi u,.int 1 v] }).objs.size,[(s.heap.push { cls:=.type "range",data:=.fields #[.int 0 t,.int hi u,.int 1 v] }).objs.size],_,_,H,rfl,
  f.kept (t':=tk) λb o e=>Qac _ e,C5 _ ((hi.toNat:Int)-1) hi.toNat,a,λb hb=>?_,q⟩
 have e:b=(s.heap.push { cls:=.type "range",data:=.fields #[.int 0 t,.int hi u,.int 1 v] }).objs.size:=by simpa using hb
 subst e;exact f.fpOk (Qan _) (f.hok.fresh (Qan _))
def Z84(v:Gl X "range")(u:X.mg "range" = none)(i:Gl X "reversed")(l:X.mg "reversed" = none)(n:PA X [a] ta)(hs:starEach [a] X.env=[(false,eval a X.env)]:=by rfl)
  (b:starEach [.Call (.Name "range" p2) [a] [] pos2] X.env=[(false,eval (.Call (.Name "range" p2) [a] [] pos2) X.env)]:=by rfl):PI X tg (.Call (.Name "reversed" p) [.Call (.Name "range" p2) [a] [] pos2] [] pos) (Zbk ta):=by
 intro pins s σ H R I h;refine Call_ (nA I i l B9 (PyProof.Rows.callWith_type1 (spliced_more (Call_ (nA I v u boot_range (PyProof.Rows.callWith_type1 (thn (n pos2 pins s σ H _ I h) λus s1 ⟨vs,H1,I1,r1,f⟩=>?_) hs rfl))) b) b rfl));obtain⟨j,e,f,o,q⟩:=f;subst e;cases r1 with
 |cons r rr =>
  cases rr;obtain⟨t,rfl⟩:=r;exact call_range_1 (spliced_none (Z9C I1 f o q))
def yT{K:Frag}(lo:Int)(n:Nat):vR K (Itd lo n) H0 ((List.range n).map λ(k:Nat)=>.int (lo-(k:Int))) []:=λH k i=>by
 refine⟨λd hd=>?_,λh=>(show n<=i by simpa using h)⟩;rw[QaA]at hd;cases a:(List.range n)[i]? with
 |none=>rw[a]at hd;cases hd
 |some j =>
  rw[a]at hd;cases hd;obtain⟨f,e⟩:=Qae.mp a;rw[List.getElem_range]at e;subst e;refine⟨(show i<n by simpa using f),λx H' y=>?_⟩;obtain⟨rfl,rfl⟩:=y;exact⟨Same.refl _,[],fM,λb hb=>hb⟩
def Z0B:Ab D->Aa (Ab D)
 |[.int j]=>if -(2^62)<=j/\j<2^62 then some ((List.range j.toNat).map λ(k:Nat)=>.int (((j.toNat:Int)-1)-(k:Int))) else none
 |_=>none
def Z7P(o:Gl X "range")(n:X.mg "range" = none)(f:Gl X "reversed")(l:X.mg "reversed" = none)(u:QA X m1 rs1 [a] fs)(hs:starEach [a] X.env=[(false,eval a X.env)]:=by rfl)
  (i:starEach [.Call (.Name "range" p2) [a] [] pos2] X.env=[(false,eval (.Call (.Name "range" p2) [a] [] pos2) X.env)]:=by rfl):QI X tg rs (.Call (.Name "reversed" p) [.Call (.Name "range" p2) [a] [] pos2] [] pos) (sB1 Z0B fs) :=
 .mk (Z84 o n f l u hs i) λσ H R ⟨env,F,ds,ok,e,q⟩=>by
  unfold sB1 at e;cases h1:fs env with
  |none=>simp only[h1]at e;cases e
  |some xs =>
   simp only[h1,Qa3]at e;unfold Z0B at e;split at e
   .rename_i j;split at e
    .rename_i h;cases e;refine⟨env,F,_,ok,h1,λvs H' fp s r c=>?_⟩;obtain⟨v,rfl,t⟩:=gY r;rw[bP t];exact⟨j,rfl,h.1,h.2,q _ H' [] s (yT _ _) (λb hb=>(by cases hb)) .nil⟩
    .cases e
   .cases e
theorem kH:∀{a b:Ab Int},a.Perm b->a.Pairwise (· <= ·)->b.Pairwise (· <= ·)->a=b
 |[],b,p,_,_=>(List.nil_perm.mp p).symm
 |x::a,[],p,_,_=>by have:=p.length_eq;simp at this
 |x::a,y::b,p,h1,h2=>by
  have h:x∈y::b:=p.mem_iff.mp Qah;have f:y∈x::a:=p.mem_iff.mpr Qah;have j:y<=x:=by
   rcases Qad.mp h with z|z
   .omega
   .exact(Qba.mp h2).1 x z
  have i:x<=y:=by
   rcases Qad.mp f with z|z
   .omega
   .exact(Qba.mp h1).1 y z
  have e:x=y:=by omega
  subst e;rw[kH (List.Perm.cons_inv p) (Qba.mp h1).2 (Qba.mp h2).2]
def Z1l(x:Int):Ab Int->Ab Int
 |[]=>[x]
 |y::r=>if x<=y then x::y::r else y::Z1l x r
def zT:Ab Int->Ab Int
 |[]=>[]
 |x::r=>Z1l x (zT r)
theorem tZ(x:Int):∀r:Ab Int,(Z1l x r).Perm (x::r)
 |[]=>.refl _
 |y::r=>by
  unfold Z1l;split
  .exact .refl _
  .exact((tZ x r).cons y).trans (.swap x y r)
theorem vE(x:Int):∀r:Ab Int,r.Pairwise (· <= ·)->(Z1l x r).Pairwise (· <= ·)
 |[],_=>by simp[Z1l]
 |y::r,h=>by
  obtain⟨h1,f⟩:=Qba.mp h;unfold Z1l;split
  .rename_i b;refine Qba.mpr ⟨λz hz=>?_,h⟩;rcases Qad.mp hz with e|e
   .omega
   .have:=h1 z e;omega
  .rename_i b;refine Qba.mpr ⟨λz hz=>?_,vE x r f⟩;have a:=(tZ x r).mem_iff.mp hz;rcases Qad.mp a with e|e
   .omega
   .exact h1 z e
theorem lU:∀r:Ab Int,(zT r).Perm r
 |[]=>.refl _
 |x::r=>(tZ x (zT r)).trans ((lU r).cons x)
theorem nU:∀r:Ab Int,(zT r).Pairwise (· <= ·)
 |[]=>.nil
 |x::r=>vE x _ (nU r)
def pB(h:IntsAre its ns):Vals (ns.map V.int) its:=by
 induction h with
 |nil=>exact .nil
 |cons n t h ih=>exact .cons ⟨t,rfl⟩ ih
def Z0p:bootBuiltins "sorted" = some (.builtin "sorted"):=by decide +kernel
def un2{α:Type}(f:En->Aa α):En->Aa α
 |some (_,.tup [a,b])::r=>f (some (false,a)::some (false,b)::r)
 |_=>none
def Z33(h:un2 f (some (b,d)::env)≠none):∃d1 d2,d=.tup [d1,d2]:=by
 unfold un2 at h;split at h
 .rename_i e;cases e;exact⟨_,_,rfl⟩
 .exact absurd rfl h
def sX:un2 f (some (b,.tup [d1,d2])::env)=f (some (false,d1)::some (false,d2)::env):=rfl
def Z9D{K:Frag}{st:Bool}(h:Reps K st H [d1,d2] vs fp):∃v1 v2,vs=[v1,v2]/\(∃f,Rep K st H d1 v1 f)/\∃f,Rep K st H d2 v2 f:=by
 simp only[Reps]at h;obtain⟨v,us,f1,n,rfl,rfl,b,l,j,e,i,rfl,rfl,a,rfl,rfl⟩:=h;exact⟨_,_,rfl,⟨_,b⟩,⟨_,a⟩⟩
def Z49{K:Frag}(ok:EnvOk K H σ env F)(f:Rep K false H d1 v1 f1)(b:Rep K false H d2 v2 f2) :
  ∃F',EnvOk K H (((jS 2 fr σ).set 0 (some v1)).set 1 (some v2)) (some (false,d1)::some (false,d2)::kQ fr env) F':=by
 refine⟨λi=>match i with|0=>f1|1=>f2|i+2=>F (fr.getD i 0),λi o d' e=>?_⟩
 match i,e with
 |0,e =>
  simp at e;obtain⟨_,rfl⟩:=e;exact⟨v1,by simp[jS],f⟩
 |1,e =>
  simp at e;obtain⟨_,rfl⟩:=e;exact⟨v2,by simp[jS],b⟩
 |i+2,e =>
  simp only[QaY,kQ,QaA]at e;cases a:fr[i]? with
  |none=>rw[a]at e;cases e
  |some j =>
   rw[a]at e;simp only[Qav,Qbv]at e;cases hq:env[j]? with
   |none=>rw[hq]at e;cases e
   |some s =>
    rw[hq]at e;simp only[QaN]at e;subst e;obtain⟨w,h1,h⟩:=ok j o d' hq;refine⟨w,?_,?_⟩
    .simp[jS,a,h1]
    .have:fr.getD i 0=j:=by simp[List.getD,a]
     simp only[this];exact h
def zG{K:Frag}(h:tD K true [] (bL fr src (un2 fc) (un2 fe)) σ H Q) :
  Z1W (tDI K rs src) 2 fr (Zbo K 2 (P6 [0,1])) (tDT K fc) (tD K true [] fe) σ H Q:=by
 obtain⟨env,F,d,ok,e,q⟩:=h;unfold bL at e;cases h1:src env with
 |none=>rw[h1]at e;cases e
 |some ds =>
  rw[h1]at e;simp only at e;split at e
  .rename_i hlen;cases C:dM (un2 fc) (un2 fe) (kQ fr env) ds with
   |none=>rw[C]at e;cases e
   |some ys =>
    rw[C]at e;cases e;refine⟨env,F,ds,ok,h1,λJ H1 fp s1 gv dm cd=>?_⟩;intro j p;refine⟨λi k vs H2=>i<=ds.length/\k=ds.length-i/\H2 j=some (.lst vs)/\Same H1 H2/\∃zs f,dM (un2 fc) (un2 fe) (kQ fr env) (ds.take i)=some zs/\Reps K true H2 zs vs f/\f.Nodup/\(∀b∈f,H1 b=none)/\j∉f,
     ⟨ds.length,Qa2 _,rfl,bG,bU p,[],[],by simp[dM],by simp only[Reps];exact⟨trivial,trivial⟩,QaF,λb n=>(by cases n),by simp⟩,?_⟩
    rintro i k vs H2 ⟨hi,hk,ha,sm,zs,f,hz,hr,nd,hfr,hna⟩;refine⟨ha,?_⟩;have R:=gv H2 (Kp.same sm fp) i;by_cases B:i<ds.length
    .right;have hd:ds[i]?=some ds[i]:=Qaj B;obtain⟨go,hy⟩:=R.1 _ hd;refine⟨go,λx H3 y3=>?_⟩;obtain⟨l,f3,I,_⟩:=hy x H3 y3;have S:EnvOk K H3 σ env F:=ok.same ((s1.trans sm).trans l);have u:=nF hd C hz;have W:un2 fc (some (false,ds[i])::kQ fr env)≠none:=by
      rcases u with⟨t,_⟩|⟨t,_⟩<;>(rw[t];intro z;cases z)
     obtain⟨d1,d2,U⟩:=Z33 W;rw[U]at I u;simp only[Rep]at I;obtain⟨pt,wt,rfl,Y,N⟩:=I;obtain⟨X,G,rfl,⟨f1,T⟩,⟨f2,P⟩⟩:=Z9D N;refine⟨pt,[X,G],rfl,Y,rfl,X,[G],rfl,G,[],rfl,rfl,⟨by simp[jS],by simp[jS]⟩,?_⟩;obtain⟨M,r⟩:=Z49 (fr:=fr) S T P;rcases u with⟨t,Z,L,c3⟩|⟨t,L⟩
     .refine⟨_,M,true,r,t,λH4 s4=>Z6 ⟨_,M,Z,r.same s4,L,λv H5 fp5 s5 r5 c5=>?_⟩⟩;have A:Same H2 H5:=(l.trans s4).trans s5;have s35:Same H4 H5:=s5;have w:H5 j=some (.lst vs):=A _ _ ha;have y:j∉fp5:=λz=>by
       have:=(c5.2 rfl).2 j z;rw[(l.trans s4) _ _ ha]at this;cases this
      have lv:vs.length<1000:=by
       have:=pW hz;have h4:=hr.length;rw[Qat]at this;omega
      refine⟨vs,w,iK (Qbe lv),ds.length-(i+1),by omega,B,rfl,bG,?_,zs++[Z],f++fp5,c3,?_,?_,?_,?_⟩
      .intro b o n;have a0:b≠j:=bO n p;rw[aY a0];exact A _ _ (sm _ _ n)
      .have e1:=Reps.keep _ _ _ (Kp.upd (o':=.lst (vs++[v])) w (by intro xs z;cases z) (by intro a b z;cases z) hna) (hr.same A);have e2:=Rep.keep _ _ _ (Kp.upd (o':=.lst (vs++[v])) w (by intro xs z;cases z) (by intro a b z;cases z) y) r5;exact e1.snoc e2
      .refine Qau.mpr ⟨nd,(c5.2 rfl).1,λa ha' b n z=>?_⟩;obtain⟨o,ho⟩:=Reps.dom _ _ _ hr a ha';have:=(c5.2 rfl).2 b n;rw[<- z,(l.trans s4) _ _ ho]at this;cases this
      .intro b n;rcases Qai.mp n with z|z
       .exact hfr b z
       .exact((sm.trans l).trans s4).free ((c5.2 rfl).2 b z)
      .intro z;rcases Qai.mp z with z|z
       .exact hna z
       .exact y z
     .refine⟨_,M,false,r,t,λH4 s4=>Z7 ⟨ds.length-(i+1),vs,by omega,B,rfl,(l.trans s4) _ _ ha,(sm.trans l).trans s4,zs,f,L,hr.same (l.trans s4),nd,hfr,hna⟩⟩
    .left;have O:i=ds.length:=by omega
     refine⟨R.2 (by omega),?_⟩;have E:dM (un2 fc) (un2 fe) (kQ fr env) ds=some zs:=by rw[O,QaD]at hz;exact hz
     rw[C]at E;cases E;refine q _ H2 (j::f) (s1.trans sm) ?_ ⟨λb n=>?_,λ_=>⟨Qax.mpr ⟨hna,nd⟩,λb n=>?_⟩⟩
     .simp only[Rep];exact⟨j,vs,f,rfl,hr,.inl ⟨rfl,ha⟩⟩
     .rcases Qad.mp n with z|z
      .exact .inl (by rw[z];exact s1.free p)
      .exact .inl (s1.free (hfr b z))
     .rcases Qad.mp n with z|z
      .rw[z];exact s1.free p
      .exact s1.free (hfr b z)
  .cases e
def Z5w{y:Str}(hc:X.calm=true)(e:gL X.env.scope X.N scope fr=true)(hi:QI X (.Tuple [.Name x px,.Name y py] k pt) rs iter src)
  (a:(eG [x,y] fr X.N).Nodup) (b:scope.names.lookup x=some .local) (f:scope.names.lookup y=some .local)
  (j:∀cl C s0 H0 ex pins,QTs (eM X (eG [x,y] fr X.N) scope cl C s0 H0 ex pins) ifs fc)
  (he:∀cl C s0 H0 ex pins,QE (eM X (eG [x,y] fr X.N) scope cl C s0 H0 ex pins) true [] elt fe)
  (hs:∀x,foldedSetIterable iter X.env x=pure x:=by intro _;rfl) :
  QE X true [] (.ListComp elt [⟨.Tuple [.Name x px,.Name y py] k pt,iter,ifs,0⟩] scope pos) (bL fr src (un2 fc) (un2 fe)) :=
 .mk (Z2l (tgs:=[x,y]) (tt:=tDT X.K fc) (te:=tD X.K true [] fe) hc e hi (λcl C s0 H0 ex pins=>Z17 (X:=eM X (eG [x,y] fr X.N) scope cl C s0 H0 ex pins) hc (dL (dH (i:=0) a rfl (.inl (lookup_relabel_local b)) (.inr (lookup_relabel_local b))) (dL (dH (i:=1) a rfl (.inl (lookup_relabel_local f)) (.inr (lookup_relabel_local f))) mU))) j he hs) λσ H Q h=>zG h
def uZ{a e pt:Pos}
  (hc:X.calm=true) (t:X.N.Nodup) (n:X.N[i]?=some x) (h:Loc X.env.scope x) (o:gL X.env.scope X.N scope fr=true) (hi:QI X (.Tuple [.Name y px,.Name z e] k pt) rs iter src)
  (b:(eG [y,z] fr X.N).Nodup) (l:scope.names.lookup y=some .local) (f:scope.names.lookup z=some .local)
  (r:∀cl C s0 H0 ex pins,QTs (eM X (eG [y,z] fr X.N) scope cl C s0 H0 ex pins) ifs fc)
  (he:∀cl C s0 H0 ex pins,QE (eM X (eG [y,z] fr X.N) scope cl C s0 H0 ex pins) true [] elt fe)
  (j:swapsWith (.ListComp elt [⟨.Tuple [.Name y px,.Name z e] k pt,iter,ifs,0⟩] scope pos) (some (.Name x pos')) a.line X.env=pure true:=by rfl)
  (p:X.fn x=true\/X.env.scope.names.lookup x=some .local:=by first|exact .inl rfl|exact .inr rfl|assumption)
  (hs:∀x,foldedSetIterable iter X.env x=pure x:=by intro _;rfl) :
  QS X (.Assign [.Name x pos'] (.ListComp elt [⟨.Tuple [.Name y px,.Name z e] k pt,iter,ifs,0⟩] scope pos) a) (bJ i (bL fr src (un2 fc) (un2 fe))) :=
 .mk (yB (tgs:=[y,z]) (tt:=tDT X.K fc) (te:=tD X.K true [] fe) hc t n h o hi (λcl C s0 H0 ex pins=>Z17 (X:=eM X (eG [y,z] fr X.N) scope cl C s0 H0 ex pins) hc (dL (dH (i:=0) b rfl (.inl (lookup_relabel_local l)) (.inr (lookup_relabel_local l))) (dL (dH (i:=1) b rfl (.inl (lookup_relabel_local f)) (.inr (lookup_relabel_local f))) mU))) r he j p hs)
  λE σ H q=>zG (tF q)
def Reps.consR{K:Frag}{st:Bool}{H:Hp}{d:D}{v:V}{f1 a:Ab Af}{ds:Ab D}{vs:Ab V}(e:Rep K st H d v f1)(b:Reps K st H ds vs a):Reps K st H (d::ds) (v::vs) (f1++a):=by
 simp only[Reps];exact⟨v,vs,f1,a,rfl,rfl,e,b⟩
def pJ(i:Nat)(fk f:En->Aa D):En->Res:=λenv=>match f env,fk env,env[i]? with
 |some d,some (.int k),some (some (true,.lst ds))=>match ixN ds.length k with
  |some j=>match ds[j]? with
   |some (.lst es)=>if es.length<=1000/\flats es=true/\flat d=true then .next (env.set i (some (true,.lst (ds.set j (.lst (es++[d])))))) else .bad
   |_=>.bad
  |none=>.bad
 |_,_,_=>.bad
def Z3G
  (hpe:PE X (.Call (.Attribute (.Subscript (.Name x p) k p3) "append" apos) [e] [] cpos) (tBM X.K "list" L5 (tOp (rIx X.K) (wZ i) (tD X.K m2 rs2 fk)) (Z4R (tD X.K m1 rs1 f) Z7l)))
  (hs:swapsWith (.Call (.Attribute (.Subscript (.Name x p) k p3) "append" apos) [e] [] cpos) none pos.line X.env=pure false:=by rfl) :
  QS X (.Expr (.Call (.Attribute (.Subscript (.Name x p) k p3) "append" apos) [e] [] cpos) pos) (pJ i fk f):=.mk (M9 hpe hs) λE σ H ⟨P,env,I,q⟩=>by
 obtain⟨F,hF⟩:=I.ex;unfold pJ at q;split at q
 .rename_i d k ds h1 hk C;split at q
  .rename_i j W;split at q
   .rename_i es t;split at q
    .rename_i h;obtain⟨v,n,_⟩:=hF.ok i true _ C;obtain⟨o,o2,Y,o4⟩:=hF.own i _ C;obtain⟨a,vs,fp',rfl,l,J,A⟩:=hG (Y v n);obtain⟨b,us,T,R,G,S,b5⟩:=Reps.modify A t h.2.1;have N:atI vs k=some (.ref b):=by unfold atI;rw[A.length,W];exact T
     refine⟨.ref a,n,env,F,_,hF.ok,hk,λvk H0 fp0 s0 r0 c0=>?_⟩;rw[bP r0];refine .inl ⟨a,vs,k,.ref b,rfl,rfl,SqL.of (s0 _ _ J),N,.inl ⟨rfl,us,SqL.of (s0 _ _ R)⟩,env,F,d,hF.ok.same s0,h1,λw H' fp s1 r c=>?_⟩;have s:Same H H':=s0.trans s1;have y:=s _ _ R;refine⟨b,us,w,rfl,rfl,y,iK (by rw[G.length];exact h.1),q _ _ ?_⟩;obtain⟨g1,U⟩:=Rep.flat _ _ _ h.2.2 r;have M:fp'.Nodup:=by rw[l]at o;exact(Qax.mp o).2
     have Q:a≠b:=λz=>by rw[l]at o;exact(Qax.mp o).1 (z ▸ S)
     obtain⟨b',us',O,c2,c3,c4,Z⟩:=Reps.modify (A.same s) t h.2.1;have L:b'=b:=by rw[T]at O;cases O;rfl
     subst L;have B:=Z M (us++[w]) (es++[d]) (by have:=(G.same s).snoc (U true);simpa using this);refine T6 (I.same.trans s) I.len (hF.grow s) C n (by rw[l];exact Qab _ S) y (by intro xs z;cases z) (by intro x u z;cases z) (λst=>?_);rw[l];exact xS (by rw[aY Q];exact s _ _ J) B
    .exact q.elim
   .exact q.elim
  .exact q.elim
 .exact q.elim
def Z3F(i:Nat)(t:QE X m2 rs2 k fk)(he:QE X m1 rs1 e f)(q:X.N[i]?=some x:=by rfl)(r:Vis X.env.scope x:=by first|exact Or.inl rfl|exact Or.inr (Or.inl rfl)|exact Or.inr (Or.inr rfl))(hd:nDb x:=by decide)(o:(x==("__classdict__" : Str))=false:=by decide)
  (n:wQ k:=by exact λ_ _=>rfl)
  (b:attributeBase (.Subscript (.Name x p) k p3) "append" X.env (eval (.Subscript (.Name x p) k p3) X.env)=eval (.Subscript (.Name x p) k p3) X.env:=by rfl)
  (l:((backTo cpos (starEach [e] X.env)).all (fun x=>!x.1) && (backToKw cpos (keywordEach [] X.env)).all (fun x=>x.1.isSome)
   && decide (([e]:Ab Ag).length+([]:Ab Keyword).length+(if ([]:Ab Keyword).isEmpty then 0 else 1)<30))=true:=by rfl)
  (h:(apos.endLine==cpos.line)=true:=by rfl) (j:starEach [e] X.env=(false,eval e X.env)::starEach [] X.env:=by rfl) (a:(backTo cpos (starEach [] X.env)).any (·.1)=false:=by rfl)
  (hs:swapsWith (.Call (.Attribute (.Subscript (.Name x p) k p3) "append" apos) [e] [] cpos) none pos.line X.env=pure false:=by rfl) :
  QS X (.Expr (.Call (.Attribute (.Subscript (.Name x p) k p3) "append" apos) [e] [] cpos) pos) (pJ i fk f) :=
 Z3G (hpe:=Z2m PySem.F.plainAttrs_list PySem.F.slot_list_append PySem.F.type_list_append tL (Z5M Z1j (jG q r hd o) t n) (pa_cons he pa_nil j) b l h j a) (hs:=hs)
def D9(i:Nat)(fk fl f:En->Aa D):En->Res:=λenv=>match f env,fk env,fl env,env[i]? with
 |some d,some (.int k),some (.int l),some (some (true,.lst ds))=>match ixN ds.length k with
  |some j=>match ds[j]? with
   |some (.lst es)=>match ixN es.length l with
    |some n=>if flats es=true/\flat d=true then .next (env.set i (some (true,.lst (ds.set j (.lst (es.set n d)))))) else .bad
    |none=>.bad
   |_=>.bad
  |none=>.bad
 |_,_,_,_=>.bad
def Z7N
  (hps:PS X (.Assign [.Subscript (.Subscript (.Name x p) k p3) l spos] e pos) (Z0O (tD X.K m1 rs1 f) (Zai (tOp (rIx X.K) (wZ i) (tD X.K m2 rs2 fk)) (tD X.K m3 rs3 fl) Z5g))) :
  QS X (.Assign [.Subscript (.Subscript (.Name x p) k p3) l spos] e pos) (D9 i fk fl f):=.mk hps λE σ H ⟨P,env,I,q⟩=>by
 obtain⟨F,hF⟩:=I.ex;unfold D9 at q;split at q
 .rename_i d L Z ds h1 hk hl J;split at q
  .rename_i j hj;split at q
   .rename_i es y;split at q
    .rename_i n hn;split at q
     .rename_i h;obtain⟨v,r,_⟩:=hF.ok i true _ J;obtain⟨w,o2,o3,o4⟩:=hF.own i _ J;obtain⟨a,vs,fp',rfl,o,N,C⟩:=hG (o3 v r);obtain⟨b,us,W,b2,M,U,b5⟩:=Reps.modify C y h.1;have S:atI vs L=some (.ref b):=by unfold atI;rw[C.length,hj];exact W
      refine⟨env,F,d,hF.ok,h1,λv' H1 fp s1 r1 c1=>?_⟩;refine⟨.ref a,r,env,F,_,hF.ok.same s1,hk,λvk H0 fp0 s0 r0 c0=>?_⟩;rw[bP r0];have t:Same H H0:=s1.trans s0;refine .inl ⟨a,vs,L,.ref b,rfl,rfl,SqL.of (t _ _ N),S,env,F,_,hF.ok.same t,hl,λvl H2 fp2 s2 r2 c2=>?_⟩;rw[bP r2];have s:Same H H2:=t.trans s2;have B:=s _ _ b2;refine⟨b,us,Z,n,rfl,rfl,B,by rw[M.length];exact hn,q _ _ ?_⟩;obtain⟨g1,Y⟩:=Rep.flat _ _ _ h.2 (r1.same (s0.trans s2));have Q:fp'.Nodup:=by rw[o]at w;exact(Qax.mp w).2
      have T:a≠b:=λz=>by rw[o]at w;exact(Qax.mp w).1 (z ▸ U)
      obtain⟨b',us',A,c2',c3',c4',R⟩:=Reps.modify (C.same s) y h.1;have O:b'=b:=by rw[W]at A;cases A;rfl
      subst O;have G:=R Q (us.set n v') (es.set n d) (Reps.set n (M.same s) (Y true));refine T6 (I.same.trans s) I.len (hF.grow s) J r (by rw[o];exact Qab _ U) B (by intro xs z;cases z) (by intro x u z;cases z) (λst=>?_);rw[o];exact xS (by rw[aY T];exact s _ _ N) G
     .exact q.elim
    .exact q.elim
   .exact q.elim
  .exact q.elim
 .exact q.elim
def Z5o(i:Nat)(q:QE X m2 rs2 k fk)(h:QE X m3 rs3 l fl)(he:QE X m1 rs1 e f)(j:X.N[i]?=some x:=by rfl)(n:Vis X.env.scope x:=by first|exact Or.inl rfl|exact Or.inr (Or.inl rfl)|exact Or.inr (Or.inr rfl))(hd:nDb x:=by decide)(b:(x==("__classdict__" : Str))=false:=by decide)
  (a:wQ k:=by exact λ_ _=>rfl)
  (o:∀ v,assign (.Subscript (.Subscript (.Name x p) k p3) l spos) X.env v=(do
   let ov <- holding [v] (eval (.Subscript (.Name x p) k p3) X.env)
   let iv <- holding [v,ov] (eval l X.env)
   standAt spos
   holding [v,ov,iv] (setItem ov iv v)
   release [v,ov,iv] []):=by intro _;rfl)
  (hs:swapsWithSole [.Subscript (.Subscript (.Name x p) k p3) l spos] e pos.line X.env=pure false:=by rfl) (hw:swappedStores [.Subscript (.Subscript (.Name x p) k p3) l spos] e X.env=pure none:=by rfl) :
  QS X (.Assign [.Subscript (.Subscript (.Name x p) k p3) l spos] e pos) (D9 i fk fl f) :=
 Z7N (hps:=Z15 he (Z5K (Z5M Z1j (jG j n hd b) q a) h U6 o) hs hw)
end PD
namespace L2
open PySem PySem.Spec PyProof.Rows
def Z6T:bootBuiltins "zip" = some (.type "zip"):=by decide +kernel
def qE:Builtin.Range.rangeSize i j (-1)=if j<i then i-j else 0:=by
 unfold Builtin.Range.rangeSize;split<;>split<;>simp_all<;>omega
def Z3d(h1:-(2^62)<=i)(b:i<2^62)(f:-(2^62)<=j)(a:j<2^62):Builtin.Range.small i j (-1)=true:=by
 have e:=@qE i j;unfold Builtin.Range.small;rw[e];clear e;simp only[Builtin.Range.rangeFitsLong,QaE,Rl];split<;>(refine⟨?_,?_⟩<;>simp<;>omega)
end L2
namespace PD
open PySem PySem.Spec PyProof.Rows L2
def Zbh(ta:TA):TI:=λσ H R=>ta σ H λvs H1=>∃i j:Int,vs=[.int i,.int j,.int (-1)]/\(-(2^62)<=i/\i<2^62 /\ -(2^62)<=j/\j<2^62)/\R (Itd i (i-j).toNat) H1
def Z8D{lo hi:Int}(I:Inv X pins σ H s)(h1:-(2^62)<=lo)(i:lo<2^62)(l:-(2^62)<=hi)(f:hi<2^62)
  (q:R (Itd lo (lo-hi).toNat) H):wpAny (model X.prog X.w) X.A (pyIter (.ref s.heap.objs.size)) (PIE X pins σ tg R) E { s with heap:=s.heap.push { cls:=.type "range",data:=.fields #[.int lo t,.int hi u,.int (-1) v] },toks:=tk }:=by
 refine wpAny_pyIter_range (IsRange.new ..) (Z3d h1 i l f) ?_;have a:Inv X pins σ H { s with heap:=s.heap.push { cls:=.type "range",data:=.fields #[.int lo t,.int hi u,.int (-1) v] },toks:=tk }:=I.kept λb o e=>Qac _ e;refine⟨(s.heap.push { cls:=.type "range",data:=.fields #[.int lo t,.int hi u,.int (-1) v] }).objs.size,[(s.heap.push { cls:=.type "range",data:=.fields #[.int lo t,.int hi u,.int (-1) v] }).objs.size],_,_,H,rfl,
  a.kept (t':=tk) λb o e=>Qac _ e,C5 _ lo (lo-hi).toNat,?_,λb hb=>?_,q⟩
 .have h:lo+((0:Nat):Int)*(-1)=lo:=by simp
  have j:(((lo-hi).toNat:Nat):Int)-((0:Nat):Int)=Builtin.Range.rangeSize lo hi (-1):=by rw[qE];split<;>omega
  show IsRangeIter _ _ (lo+((0:Nat):Int)*(-1)) ((((lo-hi).toNat:Nat):Int)-((0:Nat):Int)) (-1);rw[h,j];exact Qap _ rfl
 .have e:b=(s.heap.push { cls:=.type "range",data:=.fields #[.int lo t,.int hi u,.int (-1) v] }).objs.size:=by simpa using hb
  subst e;exact a.fpOk (Qan _) (a.hok.fresh (Qan _))
def Z3M(w:Gl X "range")(v:X.mg "range" = none)(o:PA X [a,b,c] ta)(hs:starEach [a,b,c] X.env=(false,eval a X.env)::starEach [b,c] X.env:=by rfl)(l:(backTo pos (starEach [b,c] X.env)).any (·.1)=false:=by rfl) :
  PI X tg (.Call (.Name "range" p) [a,b,c] [] pos) (Zbh ta):=by
 intro pins s σ H R I h;refine Call_ (nA I w v boot_range (PyProof.Rows.callWith_type1 (thn (o pos pins s σ H _ I h) λus s1 ⟨vs,H1,I1,r1,f⟩=>?_) hs l));obtain⟨i,j,e,⟨f,u,x,n⟩,q⟩:=f;subst e;cases r1 with
 |cons r rr =>
  cases rr with
  |cons r' rr =>
   cases rr with
   |cons r'' rr =>
    cases rr;obtain⟨t,rfl⟩:=r;obtain⟨t',rfl⟩:=r';obtain⟨y,rfl⟩:=r'';exact call_range_3 (by decide) (Z8D I1 f u x n q) (Or.inl (PyProof.noPylong_small (by omega)))
def Z0z:Ab D->Aa (Ab D)
 |[.int i,.int j,.int k]=>if (-(2^62)<=i/\i<2^62 /\ -(2^62)<=j/\j<2^62)/\k = -1 then some ((List.range (i-j).toNat).map λ(k:Nat)=>.int (i-(k:Int))) else none
 |_=>none
def ZaT{K:Frag}(h:Reps K m H [d,d',d''] vs fp):∃v b a f f' f'',vs=[v,b,a]/\Rep K m H d v f/\Rep K m H d' b f'/\Rep K m H d'' a f''/\fp=f++(f'++f''):=by
 simp only[Reps]at h;obtain⟨v,r,f1,o,rfl,rfl,h1,b,t,e,p,rfl,rfl,i,a,n,j,q,rfl,rfl,l,rfl,rfl⟩:=h;exact⟨v,b,a,f1,e,j,rfl,h1,i,l,by simp⟩
def Z3H{tg:Ag}(t:Gl X "range")(o:X.mg "range" = none)(n:QA X m1 rs1 [a,b,c] fs)(hs:starEach [a,b,c] X.env=(false,eval a X.env)::starEach [b,c] X.env:=by rfl)(l:(backTo pos (starEach [b,c] X.env)).any (·.1)=false:=by rfl) :
  QI X tg rs (.Call (.Name "range" p) [a,b,c] [] pos) (sB1 Z0z fs) :=
 .mk (Z3M t o n hs l) λσ H R ⟨env,F,ds,ok,e,q⟩=>by
  unfold sB1 at e;cases h1:fs env with
  |none=>simp only[h1]at e;cases e
  |some xs =>
   simp only[h1,Qa3]at e;unfold Z0z at e;split at e
   .rename_i i j k;split at e
    .rename_i h;cases e;refine⟨env,F,_,ok,h1,λvs H' fp s r c=>?_⟩;obtain⟨v,B,y,f,f',A,rfl,w,u,x,rfl⟩:=ZaT r;rw[bP w,bP u,bP x,h.2];exact⟨i,j,rfl,h.1,q _ H' [] s (yT _ _) (λb hb=>(by cases hb)) .nil⟩
    .cases e
   .cases e
def nO:Ab D->Ab D->Ab D
 |x::xs,y::ys=>.tup [x,y]::nO xs ys
 |_,_=>[]
theorem T3:∀(xs ys:Ab D) (i:Nat),(nO xs ys)[i]?=match xs[i]?,ys[i]? with|some x,some y=>some (.tup [x,y])|_,_=>none
 |[],ys,i=>by simp[nO]
 |x::xs,[],i=>by
  simp only[nO,List.getElem?_nil];split<;>simp_all
 |x::xs,y::ys,0=>by simp[nO]
 |x::xs,y::ys,i+1=>by simp only[nO,QaY];exact T3 xs ys i
theorem T2:∀(xs ys:Ab D),(nO xs ys).length=min xs.length ys.length
 |[],ys=>by simp[nO]
 |x::xs,[]=>by simp[nO]
 |x::xs,y::ys=>by simp only[nO,Qaf,T2 xs ys];omega
def Z0y:Ab D->Aa (Ab D)
 |[.lst xs,.lst ys]=>some (nO xs ys)
 |_=>none
end PD
namespace L2
open PySem PySem.Spec PyProof.Rows
abbrev Ent:=Ab Key×Af×V
abbrev Zaw(K:Frag)(H:Hp)(es:Ab Ent):Prop:=∀e∈es,SqT K H e.2.1 (e.1.map kV)
def Z9d(I:Inv X pins σ H s)(h:SqT X.K H b (k.map kV)):(tupleKind (dI X.prog X.w)).is s.heap k b:=by
 obtain⟨its,r,⟨o,h1,a,n,e⟩,_⟩:=I.tuple h;exact⟨o,its.toArray,n,h1,a,e,by simpa using tY r⟩
end L2
namespace PD
open PySem PySem.Spec PyProof.Rows L2
def keyOf:D->Aa Key
 | .int i=>some (.inl i)
 | .str x=>some (.inr x)
 |_=>none
def tX{K:Frag}{st:Bool}(e:keyOf d=some k)(r:Rep K st H d v fp):v=kV k:=by
 cases d with
 |int i=>cases e;exact bP r
 |str x=>cases e;exact dD r
 |_=>cases e
section
variable {κ:Type}[DecidableEq κ]
def vG{α:Type}:Ab κ->Ab α->κ->Aa α
 |k'::ks,d::ds,k=>if k'=k then some d else vG ks ds k
 |_,_,_=>none
def N6(k:κ)(ks:Ab κ):Bool:=decide (k∈ks)
def memK_iff{ks:Ab κ}:N6 k ks=true↔k∈ks:=by unfold N6;simp
def Z14(ks:Ab κ)(k:κ):Ab κ:=if k∈ks then ks else ks++[k]
def yA{α:Type}(ks:Ab κ)(xs:Ab α)(k:κ)(x:α):Ab α:=if k∈ks then List.zipWith (λk' y=>if k'=k then x else y) ks xs else xs++[x]
def Z4M{k:κ}:rF (ks.zip vs) k=vG ks vs k:=by
 induction ks generalizing vs with
 |nil=>simp[vG,rF]
 |cons k' ks ih =>
  cases vs with
  |nil=>simp[vG,rF]
  |cons v vs =>
   rw[QbE];unfold vG;by_cases h:k'=k
   .rw[if_pos h,rD (by exact h)]
   .rw[if_neg h,rE (by exact h)];exact ih
def Z8K{ks:Ab κ}(a:ks.length=vs.length):((ks.zip vs).any λb=>decide (b.1=k))=decide (k∈ks):=by
 induction ks generalizing vs with
 |nil=>simp
 |cons k' ks ih =>
  cases vs with
  |nil=>cases a
  |cons v vs =>
   rw[QbE,List.any_cons,ih (by simpa using a)];by_cases h:k'=k
   .subst h;simp
   .have h':¬k=k':=λz=>h z.symm;simp[h,h']
def Z8i{ks:Ab κ}{v:V}:(ks.zip vs).map (λa=>if a.1=k then(a.1,v) else a)=ks.zip (List.zipWith (λk' y=>if k'=k then v else y) ks vs):=by
 induction ks generalizing vs with
 |nil=>simp
 |cons k' ks ih =>
  cases vs with
  |nil=>simp
  |cons v' vs =>
   simp only[QbE,Qak,List.zipWith_cons_cons,ih];split<;>rfl
def Z5C{ks:Ab κ}{v:V}(a:ks.length=vs.length):tJ (ks.zip vs) k v=(Z14 ks k).zip (yA ks vs k v):=by
 unfold tJ Z14 yA;rw[Z8K a];by_cases h:k∈ks
 .simp only[h,decide_true,Rm];exact Z8i
 .simp only[h,decide_false,QaZ,Rn];rw[List.zip_append a];rfl
def Z5A{k:κ}(a:ks.length=xs.length):(Z14 ks k).length=(yA ks xs k x).length:=by
 unfold Z14 yA;split
 .simp[a]
 .simp[a]
theorem F0:∀{ks:Ab κ}{xs:Ab α},ks.length=xs.length->(vG ks xs k).isSome=N6 k ks
 |[],xs,h=>by simp[vG,N6]
 |k'::ks,[],h=>by cases h
 |k'::ks,x::xs,h=>by
  unfold vG;by_cases a:k'=k
  .subst a;simp[N6]
  .rw[if_neg a,F0 (by simpa using h)];have h':¬k=k':=λz=>a z.symm;simp[N6,h']
theorem uS{K:Frag}{st:Bool}(a:Rep K st H d v []):∀{ks:Ab κ}{ds:Ab D}{vs:Ab V},Reps K st H ds vs []->Reps K st H (List.zipWith (λk' y=>if k'=k then d else y) ks ds) (List.zipWith (λk' y=>if k'=k then v else y) ks vs) []
 |[],ds,vs,r=>by simp only[List.zipWith_nil_left,Reps];exact⟨trivial,trivial⟩
 |k'::ks,[],vs,r=>by
  simp only[Reps]at r;obtain⟨rfl,_⟩:=r;simp only[List.zipWith_nil_right,Reps];exact⟨trivial,trivial⟩
 |k'::ks,x::ds,vs,r=>by
  simp only[Reps]at r;obtain⟨w,us,f1,i,rfl,e,f,b⟩:=r;obtain⟨rfl,rfl⟩:=List.append_eq_nil_iff.mp e.symm;have h:=uS (k:=k) a (ks:=ks) b;simp only[List.zipWith_cons_cons,Reps];refine⟨_,_,[],[],rfl,rfl,?_,h⟩;split
  .exact a
  .exact f
def Z5z{K:Frag}{st:Bool}{ks:Ab κ}(a:Rep K st H d v [])(r:Reps K st H ds vs []):Reps K st H (yA ks ds k d) (yA ks vs k v) []:=by
 unfold yA;split
 .exact uS a r
 .have:=Reps.snoc r a;simpa using this
end
def Zbb{K:Frag}(hq:H q=none)(a:ks.length=vs.length)(h:Reps K m H ds vs fp):Rep K m (upd H q (.dK (ks.zip vs))) (.dk ks ds) (.ref q) (q::fp):=by
 simp only[Rep];exact⟨q,vs,fp,rfl,rfl,bG,a,h.same (bU hq)⟩
def gZ{K:Frag}:Reps K m H [] [] []:=by simp only[Reps];exact⟨trivial,trivial⟩
def Z5v:QE X true [] (.Dict [] [] pos) (fC (.dk [] [])):=.mk L2.pe_dnewK λσ H Q ⟨env,F,d,ok,e,q⟩=>by
 cases e;intro p hp;exact q _ _ [p] (bU hp) (Zbb (ks:=[]) (vs:=[]) hp rfl gZ) (iC (m:=true) (K:=X.K) (Same.refl H) hp (gZ (m:=true)) .nil)
def Z1z(fa fb:En->Aa D):En->Aa Bool:=λenv=>match fa env,fb env with
 |some x,some (.dk ks ds)=>match keyOf x with
  |some k=>some (N6 k ks)
  |none=>none
 |_,_=>none
def Z39{K:Frag}{H:Hp}{Q:VK}(b:Bool){env:En}{F:Nat->Ab Af}{h:Bool}(ok:EnvOk K H σ env F)(e:Z1z fa fb env=some h)(q:∀H',Same H H'->Q (.bl (if b then !h else h)) H') :
  tD K m1 rs1 fa σ H λy H1=>tD K m2 rs2 fb σ H1 λx H2=>∃a o,x=.ref a/\DGet H2 a y o/\Q (.bl (if b then !o.isSome else o.isSome)) H2:=by
 unfold Z1z at e;split at e
 .rename_i x ks ds h1 j;cases f:keyOf x with
  |none=>rw[f]at e;cases e
  |some k =>
   rw[f]at e;cases e;refine two ok h1 j λv u H' f1 f2 s r1 r2 _ _=>?_;rw[tX f r1];simp only[Rep]at r2;obtain⟨a,vs,fp',rfl,rfl,hs,i,l⟩:=r2;refine⟨a,_,rfl,DGet.k hs,?_⟩;rw[Z4M,F0 i];exact q H' s
 .cases e
def Z9N(j:X.A.units+1<cLine)(f:QE X m1 rs1 a fa)(i:QE X m2 rs2 b fb)(h:behindInMarks .In b=false:=by with_unfolding_all rfl):QT X (.Compare a [.In] [b] pos) (Z1z fa fb) :=
 .mk (L2.pt_cmp (Za4 j f i) h) λσ H Q ⟨env,F,bb,ok,e,q⟩=>Z39 (Q:=λv H'=>∃k,v=.bl k/\Q k H') false ok e λH' s=>⟨bb,rfl,q H' s⟩
def Z0F{K:Frag}(R:Same P H)(N:σ.length=env.length)(h:EnvS K P H σ env F)(q:env[i]?=some (some (true,d0)))
  (C:σ[i]?=some (some (.ref a))) (hF:F i=a::fp') (G:H a=some o) (J:∀xs,o ≠ .tup xs) (L:∀x u,o ≠ .frz x u) (t:∀st,Rep K st (upd H a o') d1 (.ref a) (a::fp2)) (E:(a::fp2).Nodup) (p:∀b∈fp2,b∈fp'\/(P b=none/\∀j s,env[j]?=some (some s)->b∉F j)) :
  SInv K P (upd H a o') σ (env.set i (some (true,d1))):=by
 have hi:i<env.length:=(Qae.mp q).1;obtain⟨S,A,T,r⟩:=h.own i _ q;have l:a∈F i:=by rw[hF];exact Qah
 have B:∀{fp:Ab Af},a∉fp->Kp fp H (upd H a o'):=λp=>Kp.upd G J L p;refine⟨λb o e=>?_,by simp[N],Z09 F i (a::fp2),λj o d e=>?_,λj d e=>?_⟩
 .have:b≠a:=λz=>by have:=A a l;rw[z,this]at e;cases e
  rw[aY this];exact R _ _ e
 .rw[cN hi]at e;by_cases f:j=i
  .subst f;rw[if_pos rfl]at e;cases e;exact⟨_,C,by rw[bS];exact t false⟩
  .rw[if_neg f]at e;obtain⟨w,h1,Q⟩:=h.ok j o d e;exact⟨w,h1,by rw[bA f];exact Rep.keep _ _ _ (B (r j _ f e a l)) Q⟩
 .rw[cN hi]at e;by_cases f:j=i
  .subst f;rw[if_pos rfl]at e;cases e;refine⟨by rw[bS];exact E,λb hb=>?_,λw hw=>?_,λk s hk ek b hb=>?_⟩
   .rw[bS]at hb;rcases Qad.mp hb with z|z
    .rw[z];exact A a l
    .rcases p b z with y|y
     .exact A b (by rw[hF];exact Qab _ y)
     .exact y.1
   .rw[C]at hw;cases hw;rw[bS];exact t true
   .rw[bS]at hb;rw[bA hk];rw[cN hi,if_neg hk]at ek;rcases Qad.mp hb with z|z
    .rw[z];exact r k s hk ek a l
    .rcases p b z with y|y
     .exact r k s hk ek b (by rw[hF];exact Qab _ y)
     .exact y.2 k s ek
  .rw[if_neg f]at e;obtain⟨O,M,I,v⟩:=h.own j d e;refine⟨by rw[bA f];exact O,λb hb=>M b (by rw[bA f]at hb;exact hb),λw hw=>by rw[bA f];exact Rep.keep _ _ _ (B (r j _ f e a l)) (I w hw),λk s hk ek b hb=>?_⟩;rw[bA f]at hb;rw[cN hi]at ek;by_cases n:k=i
   .subst n;rw[bS];intro z;rcases Qad.mp z with z|z
    .exact v k _ hk q b hb (by rw[z];exact l)
    .rcases p b z with y|y
     .exact v k _ hk q b hb (by rw[hF];exact Qab _ y)
     .exact y.2 j _ e hb
   .rw[if_neg n]at ek;rw[bA n];exact v k s hk ek b hb
def xV(i:Nat)(fk fv:En->Aa D):En->Res:=λenv=>match fv env,env[i]?,fk env with
 |some d,some (some (true,.dk ks ds)),some kd=>match keyOf kd with
  |some k=>if flats ds=true/\flat d=true/\ks.length<1000 then .next (env.set i (some (true,.dk (Z14 ks k) (yA ks ds k d)))) else .bad
  |none=>.bad
 |_,_,_=>.bad
def Z2d(T:X.A.units+1<cLine)(i:Nat)(Y:QE X m2 rs2 key fk)(U:QE X m1 rs1 value fv)(R:X.N[i]?=some x:=by rfl)(l:Vis X.env.scope x:=by first|exact Or.inl rfl|exact Or.inr (Or.inl rfl)|exact Or.inr (Or.inr rfl))(hd:nDb x:=by decide)(t:(x==("__classdict__" : Str))=false:=by decide)
  (hs:swapsWith value (some (.Subscript (.Name x p) key pos')) pos.line X.env=pure false:=by rfl) :
  QS X (.Assign [.Subscript (.Name x p) key pos'] value pos) (xV i fk fv):=.mk (Z81 T (jG R l hd t) Y U hs) λE σ H ⟨P,env,I,q⟩=>by
 obtain⟨F,hF⟩:=I.ex;unfold xV at q;split at q
 .rename_i d ks ds J h1 o Q;cases f:keyOf J with
  |none=>rw[f]at q;exact q.elim
  |some k =>
   rw[f]at q;simp only at q;split at q
   .rename_i j;obtain⟨w,e,_⟩:=hF.ok i true _ o;obtain⟨o1,o2,M,Z⟩:=hF.own i _ o;have C:=M w e;simp only[Rep]at C;obtain⟨a,vs,fp',rfl,B,L,y,O⟩:=C;obtain⟨K,W⟩:=Reps.flat _ _ _ j.1 O;subst K;refine⟨env,F,d,hF.ok,h1,λv H1 fp s r c=>⟨.ref a,e,env,F,J,hF.ok.same s,Q,λkv H2 fp2 s2 r2 c2=>?_⟩⟩;obtain⟨_,S⟩:=Rep.flat _ _ _ j.2.1 r;rw[tX f r2];have h:=(s.trans s2) _ _ L;have G:(ks.zip vs).length<sizeLine:=by
     rw[List.length_zip];have:=iK (n:=ks.length) (by omega);omega
    refine⟨a,_,rfl,DPut.k h G,q _ _ ?_⟩;refine Z0F (fp2:=[]) (fp':=[]) (I.same.trans (s.trans s2)) I.len (hF.grow (s.trans s2)) o e B h (by intro xs z;cases z) (by intro x u z;cases z) (λst=>?_) (by simp) (λb hb=>(by cases hb));rw[Z5C y];simp only[Rep];refine⟨a,yA ks vs k v,[],rfl,rfl,bG,Z5A y,?_⟩;refine Reps.keep _ _ _ (Kp.upd (fp:=[]) h (by intro xs z;cases z) (by intro x u z;cases z) (by simp)) ?_;exact Z5z ((S st).same s2) ((W st).same (s.trans s2))
   .exact q.elim
 .exact q.elim
def Z0k(S:PySem.W.KdlSrc prog w T r d n PP OK)(p:A.handled=none)(i:OK s.heap)(l:n<=sizeLine)
  (b:∀(hp:Ah) (tk:Nat) (vs:Ae Ad),(∀c o,s.heap.get? c=some o->hp.get? c=some o)->s.heap.objs.size<hp.objs.size->PySem.ItemsOf PP vs n->Z vs.toList { s with heap:=hp,toks:=tk }) :
  wpAny (model prog w) A (collect (.ref r)) Z E s:=by
 obtain⟨l1,l2⟩:=S.there _ i;unfold collect;refine Ra (wpAny_runValue (codeAny_builtin PyProof.Rows.entry_proto_collect' ?_));rw[Around.under_plainId PySem.F.plain_proto_collect _];show wpAny _ A.in1 (newList [] >>= λu=>again (.builtin "list.__iadd__" ⟨[u,.ref r],[]⟩)) _ _ s;refine Ra (Re (Rb ⟨plainId_quiet PySem.F.plain_list_iadd _,codeAny_builtin PyProof.Rows.entry_list_iadd' ?_⟩));rw[Around.under_plainId PySem.F.plain_list_iadd _];have j:(s.heap.push { cls:=.type "list",data:=.seq ([]:Ab Ad).toArray }).get? s.heap.objs.size=some { cls:=.type "list",data:=.seq #[] }:=Qap _ rfl;have f:=PySem.W.kdl_extend (A:=A) (s:={ s with heap:=s.heap.push { cls:=.type "list",data:=.seq ([]:Ab Ad).toArray } })
  (R:=fun (q:Result) (t:Ac)=>q=.ok (.ret (.ref s.heap.objs.size)) /\ ∃ (hp:Ah) (tk:Nat) (vs:Ae Ad) (k:Nat),t={ s with heap:=hp,toks:=tk } /\ (∀ c o,s.heap.get? c=some o->hp.get? c=some o) /\
   hp.get? s.heap.objs.size=some { cls:=.type "list",dict:=none,data:=.seq vs k,slots:=#[] }/\PySem.ItemsOf PP vs n)
  S p (S.keep _ _ i λc _ o e=>Qac _ e) s.heap.objs.size (QbC l1) (QbC l2) (.ref s.heap.objs.size) 0 j
  (λhp tk vs k kept a its=>⟨rfl,hp,tk,vs,k,rfl,λc o e=>kept c o (QaM (Qal e)) (Qac _ e),a,its⟩) l
 show wpAny _ A.in1 (Builtin.List.listExtendWith (.ref s.heap.objs.size) (.ref r) (.ref s.heap.objs.size)) _ _ _;refine Rc f (λout t hq=>?_) λx t hq=>(by cases hq.1);cases out with
 |done fl =>
  obtain⟨e,hp,tk,vs,k,rfl,kept,a,its⟩:=hq;cases e;show wpAny _ A (load s.heap.objs.size >>= _) _ _ _;exact Ra (wpAny_load a (Rb (b hp tk vs kept (Qal a) its)))
 |again code =>
  refine⟨hq.1,codeAny_mono hq.2 λres t2 hr=>?_⟩;obtain⟨rfl,hp,tk,vs,k,rfl,kept,a,its⟩:=hr;show wpAny _ A (load s.heap.objs.size >>= _) _ _ _;exact Ra (wpAny_load a (Rb (b hp tk vs kept (Qal a) its)))
theorem yS:∀{l:Ab Ad}{ns:Ab Int},l.length=ns.length->(∀(j:Nat) (v:Ad),l[j]?=some v->∃n t,ns[j]?=some n/\v=.int n t)->IntsAre l ns
 |[],[],_,_=>.nil
 |[],_::_,h,_=>by cases h
 |_::_,[],h,_=>by cases h
 |v::l,n::ns,h,hv=>by
  obtain⟨a,t,e,rfl⟩:=hv 0 v rfl;cases e;exact .cons n t (yS (by simpa using h) λj u hu=>hv (j+1) u hu)
def B0(hc:X.calm=true):CallR X (.builtin "sorted") (λvs H Q=>∃(a:Af) (kvs:Ab (Key×V)) (ns:Ab Int),vs=[.ref a]/\H a=some (.dK kvs)/\kvs.map (·.1)=ns.map Sum.inl/\ns.length<64/\∀l,H l=none->Q (.ref l) (upd H l (.lst ((zT ns).map V.int)))):=λpins s σ H xs us Q I w h=>by
 obtain⟨a,kvs,ns,rfl,N,L,F,q⟩:=h;obtain⟨u,rfl,r⟩:=nQ w;cases (show u=Value.ref a from r)
 obtain⟨z,hd,vs,y,S⟩:=Z9f I.hok N;obtain⟨ep,G⟩:=S.dictAt;have p:=y.keys;have P:=y.length;have J:vs.length=ns.length:=by
  have:=congrArg List.length L;simp only[Qaa]at this;omega
 have C:vs.length<=sizeLine:=by omega
 refine Calls.call_function_entry kind_sorted plain_sorted entry_sorted (args_sorted1 _) ?_;unfold Builtin.«sorted»;refine Ra (m:=checkCount "sorted" 1 1 _) (Rb ?_);refine Ra (Z0k (A:=X.A.in1) (PySem.W.kdl_dict (knd:=dI X.prog X.w) (kvs:=vs) (ep:=ep) hd) (I.ok.hd hc) G C λhp tk acc kept hlt its=>?_);have T:IntsAre acc.toList ns:=by
  refine yS (by rw[Qbk,its.1,J]) λj v hv=>?_;rw[Array.getElem?_toList]at hv;obtain⟨k,x,R,M⟩:=its.2 j v hv;have f:(vs.map (·.1))[j]?=some k:=by rw[QaA,R];rfl
  rw[<- p,L,QaA]at f;cases b:ns[j]? with
  |none=>rw[b]at f;cases f
  |some n =>
   rw[b]at f;simp only[Qav,Qbv]at f;subst f;rcases dO (show yQ (Sum.inl n) v=true from M)with⟨i,t,e,rfl⟩|⟨x,t,e,_⟩
   .cases e;exact⟨n,t,rfl,rfl⟩
   .cases e
 have B:acc.toList.length<64:=by rw[Qbk,its.1,J];exact F
 refine Ra (wpAny_newList ?_ (by rw[Qbk,its.1];exact C));have o:(hp.push { cls:=.type "list",data:=.seq acc.toList.toArray }).get? hp.objs.size=some (seqObj "list" acc.toList.toArray 0):=Qap _ rfl;refine Ra (Rf (Rg slot_list_sort ⟨_,o,rfl⟩ entry_list_sort (list_sort_tree o T B λout ns' a1 a2 a3=>⟨_,rfl,?_⟩) (args_list_sort _)));refine Rb ⟨_,rfl,?_⟩;obtain⟨O,he⟩:=sortedHeap_at (out:=out) o;have b:ns'=zT ns:=kH (a2.trans (lU ns).symm) a3 (nU ns);subst b;refine⟨.ref hp.objs.size,_,I.laid (t':=tk) (λc u e=>?_) (Qbe hlt) (show ObjOk X.prog X.w _ _ _ (.lst ((zT ns).map V.int)) from⟨?_,out.toList,O,pB a1,?_⟩),rfl,q _ (I.hok.fresh (Qbe hlt))⟩
 .have E:=kept c u e;have K:=Qal E;rw[sortedHeap_old (QaM K) (by rw[size_push'];exact Nat.lt_succ_of_lt K)];exact Qac _ E
 .have:=a2.length_eq;rw[Qaa,this];omega
 .rw[Array.toArray_toList];exact he
def kY:Ab Key->Aa (Ab Int)
 |[]=>some []
 | .inl i::r=>(kY r).map (i :: ·)
 | .inr _::_=>none
theorem vD:∀{ks:Ab Key}{ns:Ab Int},kY ks=some ns->ks=ns.map Sum.inl
 |[],ns,h=>by cases h;rfl
 | .inl i::r,ns,h=>by
  unfold kY at h;cases a:kY r with
  |none=>rw[a]at h;cases h
  |some m=>rw[a]at h;cases h;rw[Qak,<- vD a]
 | .inr _::_,ns,h=>by cases h
def Z1k(ns:Ab Int):kY (ns.map Sum.inl)=some ns:=by
 induction ns with
 |nil=>rfl
 |cons n ns ih=>rw[Qak];unfold kY;rw[ih];rfl
def R9:Ab D->Aa D
 |[.dk ks _]=>match kY ks with
  |some ns=>if ns.length<64 then some (.lst ((zT ns).map .int)) else none
  |none=>none
 |_=>none
def Z5q(hc:X.calm=true)(o:Gl X "sorted")(n:X.mg "sorted" = none)(j:QE X m1 rs1 a fa)(he:starEach [a] X.env=(false,eval a X.env)::starEach [] X.env:=by rfl)(hpl:(backTo pos (starEach [] X.env)).any (·.1)=false:=by rfl) :
  QE X m rs (.Call (.Name "sorted" p) [a] [] pos) (fB1 R9 (aC fa aH)) :=
 nW (B0 hc) o n Z0p (aB j aW he) (λds d vs H fp Q e r q=>by
  unfold R9 at e;split at e
  .rename_i ks xs;cases hq:kY ks with
   |none=>rw[hq]at e;cases e
   |some ns =>
    rw[hq]at e;simp only at e;split at e
    .rename_i i;cases e;obtain⟨v,rfl,h⟩:=gY r;simp only[Rep]at h;obtain⟨p,ws,fp',rfl,rfl,hs,f,t⟩:=h;refine⟨p,_,ns,rfl,hs,?_,i,λl f=>?_⟩
     .rw[<- vD hq,List.map_fst_zip (by omega)]
     .exact q _ _ [l] (bU f) (iO f (pI (zT ns))) (λb hb=>by simp at hb;rw[hb];exact f) (by simp)
    .cases e
  .cases e) (he:=he) (hpl:=hpl)
abbrev Itm:=Sum Nat (En->Aa D)
def iS:Ab Itm->En->Aa (Ab D)
 |[],_=>some []
 | .inl i::r,env=>match env[i]?,iS r env with
  |some (some (true,d)),some ds=>some (d::ds)
  |_,_=>none
 | .inr f::r,env=>match f env,iS r env with
  |some d,some ds=>some (d::ds)
  |_,_=>none
def ownOf:Ab Itm->Ab Nat
 |[]=>[]
 | .inl i::r=>i::ownOf r
 | .inr _::r=>ownOf r
def Z9s(K:Frag)(is:Ab Itm):TA:=λσ H Q=>∃P env F ds,Same P H/\EnvS K P H σ env F/\iS is env=some ds /\
 ∀vs H' fp,Same H H'->Reps K true H' ds vs fp->fp.Nodup->(∀b∈fp,P b=none/\(H b=none\/∃i∈ownOf is,∃d,env[i]?=some (some (true,d))/\b∈F i))->Q vs H'
def QIt(X:Cx)(es:Ab Ag)(is:Ab Itm):Prop:=PA X es (Z9s X.K is)
def Z2e:QIt X [] []:=λpos pins s σ H Q I ⟨P,env,F,ds,sm,hF,e,q⟩=>L2.pa_nil pos pins s σ H Q I (by
 cases e;exact q [] H [] (Same.refl H) (by simp only[Reps];exact⟨trivial,trivial⟩) QaF (λb hb=>(by cases hb)))
def wH(i:Nat)(M:QIt X es is)(w:i∉ownOf is:=by simp[PD.ownOf])(B:X.N[i]?=some x:=by rfl)(L:Vis X.env.scope x:=by first|exact Or.inl rfl|exact Or.inr (Or.inl rfl)|exact Or.inr (Or.inr rfl))(hd:nDb x:=by decide)(n:(x==("__classdict__" : Str))=false:=by decide)
  (h1:starEach (.Name x p::es) X.env=(false,eval (.Name x p) X.env)::starEach es X.env:=by rfl):QIt X (.Name x p::es) (.inl i::is) :=
 λpos pins s σ H Q I ⟨P,env,F,ds,sm,hF,e,q⟩=>L2.pa_cons (jG B L hd n) M h1 pos pins s σ H Q I (by
  unfold iS at e;split at e
  .rename_i d u f O;cases e;obtain⟨v,h,_⟩:=hF.ok i true d f;obtain⟨G,E,C,K⟩:=hF.own i d f;refine⟨v,h,P,env,F,u,sm,hF,O,λvs H' fp s r nd hb=>?_⟩;refine q (v::vs) H' (F i++fp) s ?_ (Qau.mpr ⟨G,nd,λb hb1 b' hb2 z=>?_⟩) (λb hb'=>?_)
   .simp only[Reps];exact⟨v,vs,F i,fp,rfl,rfl,(C v h).same s,r⟩
   .rw[<- z]at hb2;rcases (hb b hb2).2 with y|⟨k,l,d',j,a⟩
    .obtain⟨o,t⟩:=hF.dom f b hb1;rw[y]at t;cases t
    .exact K k _ (λz=>w (z ▸ l)) j b hb1 a
   .rcases Qai.mp hb' with z|z
    .exact⟨E b z,.inr ⟨i,by simp[ownOf],d,f,z⟩⟩
    .obtain⟨A,J⟩:=hb b z;exact⟨A,J.imp id λ⟨k,l,d',j,a⟩=>⟨k,by simp[ownOf,l],d',j,a⟩⟩
  .cases e)
def M0(he:QE X true [] e f)(x:QIt X es is)(h1:sEa e es X.env:=by rfl):QIt X (e::es) (.inr f::is) :=
 λpos pins s σ H Q I ⟨P,env,F,ds,sm,hF,e',q⟩=>L2.pa_cons he x h1 pos pins s σ H Q I (by
  unfold iS at e';split at e'
  .rename_i d l u A;cases e';refine⟨env,F,d,hF.ok,u,λv H1 fp1 s1 r1 c1=>⟨P,env,F,l,sm.trans s1,hF.grow s1,A,λvs H' fp s r nd hb=>?_⟩⟩;obtain⟨w,i⟩:=c1.2 rfl;refine q (v::vs) H' (fp1++fp) (s1.trans s) ?_ (Qau.mpr ⟨w,nd,λb hb1 b' hb2 z=>?_⟩) (λb hb'=>?_)
   .simp only[Reps];exact⟨v,vs,fp1,fp,rfl,rfl,r1.same s,r⟩
   .rw[<- z]at hb2;rcases (hb b hb2).2 with y|⟨k,n,d',j,a⟩
    .obtain⟨o,h⟩:=Rep.dom _ _ _ r1 b hb1;rw[y]at h;cases h
    .obtain⟨o,h⟩:=hF.dom j b a;rw[i b hb1]at h;cases h
   .rcases Qai.mp hb' with z|z
    .exact⟨sm.free (i b z),.inl (i b z)⟩
    .obtain⟨p,t⟩:=hb b z;refine⟨p,?_⟩;rcases t with y|y
     .exact .inl (s1.free y)
     .obtain⟨k,n,d',j,a⟩:=y;exact .inr ⟨k,by simpa[ownOf]using n,d',j,a⟩
  .cases e')
def D8(is:Ab Itm):En->Res:=λenv=>match iS is env with
 |some ds=>if ds.length<=1000 then .ret (.tup ds) else .bad
 |none=>.bad
def Z2b(h:QIt X es is):QS X (.Return (some (.Tuple es k1 p3)) pos) (D8 is):=.mk (M8 (L2.pe_tup h)) λE σ H ⟨P,env,I,q⟩=>by
 obtain⟨F,hF⟩:=I.ex;unfold D8 at q;split at q
 .rename_i ds e;split at q
  .rename_i a;refine⟨P,env,F,ds,I.same,hF,e,λvs H' fp s r nd hb=>⟨by rw[r.length];exact Qbe (iK a),λq' hq=>?_⟩⟩;exact q _ _ fp ((I.same.trans s).trans (bU hq)) (qO hq r) (λb hb'=>(hb b hb').1) nd
  .exact q.elim
 .exact q.elim
end PD
namespace HT
open PySem PyProof.Rows
def getItem_tuple_all{lo hi:Aa Int}(a:IsTup s.heap t items)(hs:s.heap.IsSliceOf sl vl vu .none)(pl:IsPart vl lo)(l:IsPart vu hi)
  (h1:sIx items.size 0 lo=0) (j:sIx items.size items.size hi=items.size) (h:Q (.ref t) s):wpAny (model prog w) A (getItem (.ref t) (.ref sl)) Q E s:=by
 obtain⟨os,i,f,n⟩:=id hs;have e:s.TypeIs (.ref sl) "slice":=⟨os,i,f⟩;unfold getItem
 try with_reducible refine Rf ?_
 first|refine Ra (Rb ?_)|skip
 refine Ra (wpAny_sequenceKey a.typeIs (by decide) ?_);refine Ra (wpAny_callSpecial?_slot (name:=Str.ofString "__getitem__") a.typeIs PyProof.Rows.slot_tuple_getitem
  (Rg PyProof.Rows.slot_tuple_getitem a.typeIs entry_tuple_getitem ?_ (args_tuple_getitem _ _)))
 show wpAny _ _ (Builtin.Tuple.tupleItemsOf (.ref t) >>= _) _ _ s;refine Ra (tupleItemsOf_ a ?_);refine Ra (wpAny_typeOf e ?_);rw[if_pos (by decide)];refine Ra (lV hs pl l ?_);have b:(((sIx items.size 0 lo:Nat):Int)==0&&(1:Int)==1&&(sIx items.size items.size hi-sIx items.size 0 lo)==items.size)=true:=by
  rw[h1,j];simp
 show wpAny _ _ (if (((sIx items.size 0 lo:Nat):Int)==0&&(1:Int)==1&&(sIx items.size items.size hi-sIx items.size 0 lo)==items.size)=true then _ else _) _ _ s;rw[if_pos b];refine Ra ?_;unfold Builtin.Tuple.tupleIsExact;refine Ra (wpAny_typeOf a.typeIs (Rb ?_));show wpAny _ _ (if (Value.type "tuple" == Value.type "tuple")=true then _ else _) _ _ s;rw[if_pos (by decide)];exact Ra (wpAny_rule (Rb ⟨_,rfl,Rb h⟩))
end HT
namespace PD
open PySem PySem.Spec PyProof.Rows L2
theorem Reps.rev{K:Frag}{st:Bool}:∀{ds:Ab D}{vs:Ab V},Reps K st H ds vs []->Reps K st H ds.reverse vs.reverse []
 |[],vs,h=>by
  simp only[Reps]at h;obtain⟨rfl,_⟩:=h;simp only[List.reverse_nil,Reps];exact⟨trivial,trivial⟩
 |d::ds,vs,h=>by
  simp only[Reps]at h;obtain⟨v,us,f1,f,rfl,e,b,a⟩:=h;obtain⟨rfl,rfl⟩:=List.append_eq_nil_iff.mp e.symm;have:=Reps.snoc (Reps.rev a) b;simpa using this
def ZaV(K:Frag):V->Aa Int->Aa Int->Hp->VK->Prop:=λx lo hi H Q=>∃a xs,x=.ref a/\SqT K H a xs/\HT.sIx xs.length 0 lo=0/\HT.sIx xs.length xs.length hi=xs.length/\Q (.ref a) H
def Z7q:SlR X (ZaV X.K):=by
 intro pins s σ H x v o n lo hi t Q I f hs pl i h;obtain⟨a,xs,rfl,l,h1,j,q⟩:=h;cases f;obtain⟨its,r,e,p⟩:=I.tuple l;have b:its.toArray.size=xs.length:=by rw[Qao];exact r.length.symm
 refine⟨"tuple",_,PyProof.Rows.slot_tuple_getitem.lookup,e.typeIs,?_⟩;exact HT.getItem_tuple_all e hs pl i (by rw[b];exact h1) (by rw[b];exact j) ⟨.ref a,H,I,rfl,q⟩
def Z1y(fa:En->Aa D)(fl fh:En->Aa (Aa Int)):En->Aa D:=λenv=>match fa env,fl env,fh env with
 |some (.tup ds),some lo,some hi=>if flats ds=true then some (.tup (cutD ds lo hi)) else none
 |_,_,_=>none
def Z1C{lo hi:Aa Int}(h1:HT.sIx ds.length 0 lo=0)(a:HT.sIx ds.length ds.length hi=ds.length):cutD ds lo hi=ds:=by
 unfold cutD;rw[h1,a];simp
def E2{lo hi:Aa Ag}(t:QE X m1 rs1 a fa)(u:QO X lo fl)(w:QO X hi fh):QE X m rs (.Subscript a (.Slice lo hi none p2) pos) (Z1y fa fl fh) :=
 .mk (L2.pe_slice (SlR.or Z0Q Z7q) t u w) λσ H Q ⟨env,F,d,ok,e,q⟩=>by
  unfold Z1y at e;split at e
  .rename_i ds l h h1 x B;split at e
   .rename_i n;cases e;refine⟨env,F,_,ok,h1,λv H1 f1 s1 r1 c1=>⟨env,F,l,ok.same s1,x,λH2 s2=>⟨env,F,h,ok.same (s1.trans s2),B,λH3 s3=>?_⟩⟩⟩;have f:=r1.same (s2.trans s3);have o:=f;simp only[Rep]at f;obtain⟨p,vs,rfl,j,i⟩:=f;by_cases hw:HT.sIx ds.length 0 l=0/\HT.sIx ds.length ds.length h=ds.length
    .right;refine⟨p,vs,rfl,j,by rw[i.length];exact hw.1,by rw[i.length];exact hw.2,?_⟩;rw[Z1C hw.1 hw.2]at q;exact q _ _ [] ((s1.trans s2).trans s3) ((Rep.flat _ _ _ (by simpa only [PD.flat]using n) o).2 m) .nil
    .left;refine⟨p,vs,rfl,j,by rw[i.length];exact hw,λp' hp=>?_⟩;obtain⟨C,r⟩:=Reps.flat _ _ _ n i;obtain⟨f',A,y⟩:=Reps.cut (r m) l h;obtain rfl:f'=[]:=Qbf.mpr λb hb=>(by cases y b hb);exact q _ _ [] (((s1.trans s2).trans s3).trans (bU hp)) (qO hp A) .nil
   .cases e
  .cases e
def Z5L(he:PE X e te):PE X (.Subscript e (.Slice none none (some (.UnaryOp .USub (.Constant (.int 1) k pp) p3)) p2) pos)
  (λσ H Q=>te σ H λx H1=>∃a xs,x=.ref a/\SqL X.K H1 a xs/\∀p,H1 p=none->Q (.ref p) (upd H1 p (.lst xs.reverse))):=by
 intro pins s σ H Q I h;refine Subscript_ (thn (he pins s σ H _ I h) λv s1 ⟨x,H1,I1,r1,a,xs,ex,hx,q⟩=>?_);subst ex;cases r1;refine wpAny_Slice ?_;rw[evalPart_none];refine Rb (Rb ?_);refine thn ((L2.pe_un (pos:=p3) Z4N (L2.pe_int (i:=1) (j:=k) (pos:=pp))) pins s1 σ H1 (λv l=>v=.int (-1)/\l=H1) I1 ⟨1,rfl,rfl,rfl⟩) λst s2 h2=>?_;obtain⟨z,l,C,y,rfl,rfl⟩:=h2;obtain⟨t,rfl⟩:=y;have f:Inv X pins σ l { s2 with heap:=s2.heap.push { cls:=.type "slice",data:=.fields #[.none,.none,.int (-1) t] } }:=C.kept (t':=s2.toks) λb ob q=>Qac _ q;obtain⟨its,r,n,B⟩:=f.list hx;have u:=r.length;show wpAny (model X.prog X.w) X.A (subscriptTail e (.Slice none none (some (.UnaryOp .USub (.Constant (.int 1) k pp) p3)) p2) (.ref a) (.ref s2.heap.objs.size)) (EP X pins σ Q) X.xe { s2 with heap:=s2.heap.push { cls:=.type "slice",data:=.fields #[.none,.none,.int (-1) t] } };refine tail_any (ops:=[.ref a,.ref s2.heap.objs.size]) n.isList.typeIs slot_list_getitem.lookup ?_ (by with_unfolding_all rfl);refine wpAny_getItem_list_slice n.isList (Heap.IsSliceOf.new ..) .none .none (.int _ _) (by simp) ?_ (by rw[Qao]<;>omega);rw[PySem.W.krv_pick];refine⟨.ref (s2.heap.push { cls:=.type "slice",data:=.fields #[.none,.none,.int (-1) t] }).objs.size,_,f.laid (t':=s2.toks) (o:=.lst xs.reverse) (λb ob q=>Qac _ q) (Qan _) ?_,rfl,q _ (f.hok.fresh (Qan _))⟩;exact⟨by rw[List.length_reverse];exact B,_,0,r.reverse,Qap _ rfl⟩
def P9(fa:En->Aa D):En->Aa D:=λenv=>match fa env with
 |some (.lst ds)=>if flats ds=true then some (.lst ds.reverse) else none
 |_=>none
def Z5s(i:QE X m1 rs1 a fa):QE X m rs (.Subscript a (.Slice none none (some (.UnaryOp .USub (.Constant (.int 1) k pp) p3)) p2) pos) (P9 fa) :=
 .mk (Z5L i) λσ H Q ⟨env,F,d,ok,e,q⟩=>by
  unfold P9 at e;split at e
  .rename_i ds h1;split at e
   .rename_i h;cases e;refine⟨env,F,_,ok,h1,λv H1 f1 s1 r1 c1=>?_⟩;obtain⟨p,vs,fp',rfl,f,l,j⟩:=cA r1;refine⟨p,vs,rfl,f,λp' hp=>?_⟩;obtain⟨n,b⟩:=Reps.flat _ _ _ h l;exact q _ _ [p'] (s1.trans (bU hp)) (iO hp (Reps.rev (b m))) (iC (m:=m) (K:=X.K) s1 hp (Reps.rev (b m)) .nil)
   .cases e
  .cases e
def ZaZ(K:Frag):R2:=λx y H Q=>∃l b xs zs,x=.ref l/\y=.ref b/\SqL K H l xs/\SqL K H b zs/\xs.length+zs.length<=sizeLine/\∀p,H p=none->Q (.ref p) (upd H p (.lst (xs++zs)))
def Z2o:OpR X (binaryOp .Add) (ZaZ X.K):=by
 intro pins s σ H x y v u Q I C A h;obtain⟨l,b,xs,M,rfl,rfl,E,J,O,q⟩:=h;cases C;cases A;obtain⟨its,r,⟨⟨U,S,W,j⟩,G,n,k1,k2,k3⟩,P⟩:=I.list E;obtain⟨a,t,⟨⟨T,R,N,o⟩,B,f,e,p,i⟩,L⟩:=I.list J;simp only at k1 k2 k3 e p i;subst k1 k2 k3 e p i;have l1:=r.length;have l2:=t.length;refine concat_meets ⟨_,n,rfl⟩ ⟨_,f,rfl⟩ noFill_list_add seq_list_add PySem.F.slot_list_add PySem.F.entry_list_add (PySem.F.args_list_add_2 _ _) (list_addW l b its.toArray a.toArray G B none none j o (by rw[Qao,Qao];omega)) ⟨n,f,?_⟩;have w:its.toArray++a.toArray=(its++a).toArray:=by simp
 rw[w];exact⟨.ref _,_,I.lnew (t':=s.toks) (r.append t) (by rw[Qam];omega),rfl,q _ I.fresh⟩
def G1(fa fb:En->Aa D):En->Aa D:=λenv=>match fa env,fb env with
 |some (.lst xs),some (.lst ys)=>if (flats xs=true/\flats ys=true)/\xs.length+ys.length<=1000 then some (.lst (xs++ys)) else none
 |_,_=>none
def Z2i(t:QE X m1 rs1 a fa)(B:QE X m2 rs2 b fb):QE X m rs (.BinOp a .Add b pos) (G1 fa fb) :=
 .mk (L2.pe_op Z2o t B) λσ H Q ⟨env,F,d,ok,e,q⟩=>by
  unfold G1 at e;split at e
  .rename_i xs ys h1 A;split at e
   .rename_i i;cases e;refine two ok h1 A λv u H' f1 f2 s r1 r2 _ _=>?_;obtain⟨p,vs,fp',rfl,l,n,x⟩:=cA r1;obtain⟨y,us,C,rfl,h,f,o⟩:=cA r2;obtain⟨_,r⟩:=Reps.flat _ _ _ i.1.1 n;obtain⟨_,w⟩:=Reps.flat _ _ _ i.1.2 f;have j:=(r m).append (w m);refine⟨p,y,vs,us,rfl,rfl,l,h,jT (by rw[n.length,f.length];exact i.2),λp2 hp=>?_⟩;exact q _ _ [p2] (s.trans (bU hp)) (iO hp j) (iC (m:=m) (K:=X.K) s hp j .nil)
   .cases e
  .cases e
@[simp] def ev_var:aD i env=(env[i]?).join.map (·.2):=(rfl)
@[simp] def ev_C:fC d env=some d:=(rfl)
def nL{C:Int->Int->Prop}{g:Int->Int->D}{i j:Int}(a:fa env=some (.int i))(b:fb env=some (.int j))(hc:C i j):fI2 C g fa fb env=some (g i j):=by simp[fI2,a,b,hc]
def Z9c{g:Int->Int->D}{i j:Int}(a:fa env=some (.int i))(b:fb env=some (.int j)):fI0 g fa fb env=some (g i j):=by simp[fI0,a,b]
@[simp] def ev_Flat:bC f env=match f env with|some d=>if flat d=true then some d else none|none=>none:=(rfl)
@[simp] def ev_B:fB f env=match f env with|some (.bl b)=>some b|_=>none:=(rfl)
@[simp] def ev_OfB:uJ b env=(b env).map .bl:=(rfl)
@[simp] def ev_And:nE b c env=match b env with|some true=>c env|some false=>some false|none=>none:=(rfl)
@[simp] def ev_Or:fOr b c env=match b env with|some false=>c env|some true=>some true|none=>none:=(rfl)
@[simp] def ev_Not:mL b env=(b env).map (!·):=(rfl)
@[simp] def ev_If{α:Type}{c:En->Aa Bool}{f g:En->Aa α}:fIf c f g env=match c env with|some true=>f env|some false=>g env|none=>none:=(rfl)
@[simp] def ev_Nil:aH env=some []:=(rfl)
@[simp] def ev_Cons:aC f fs env=match f env,fs env with|some d,some ds=>some (d::ds)|_,_=>none:=(rfl)
@[simp] def ev_Tup:gU fs env=match fs env with|some ds=>if ds.length<=1000 then some (.tup ds) else none|none=>none:=(rfl)
@[simp] def ev_Lst:dN fs env=match fs env with|some ds=>if ds.length<=1000 then some (.lst ds) else none|none=>none:=(rfl)
@[simp] def ev_BI:fBI p fa fb env=match fa env,fb env with|some (.int i),some (.int j)=>some (p i j)|_,_=>none:=(rfl)
@[simp] def ev_IsN:lO neg fa env=match fa env with|some .non=>some (!neg)|some _=>some neg|none=>none:=(rfl)
@[simp] def ev_Eq:fEq fa fb env=match fa env,fb env with|some x,some y=>eqN 8 x y|_,_=>none:=(rfl)
@[simp] def ev_Ix : fIx fa fb env=match fa env, fb env with
 |some (.lst ds),some (.int i)=>atI ds i
 |some (.tup ds),some (.int i)=>atI ds i
 |some (.str z),some (.int i)=>if z.length<=1000 then(atI z.cps.toList i).map λc=>.str ⟨#[c]⟩ else none
 |_,_=>none:=(rfl)
@[simp] def ev_I2'{C : Int->Int->Prop}{g : Int->Int->D} : fI2 C g fa fb env=match fa env, fb env with
 |some (.int i),some (.int j)=>open Classical in if C i j then some (g i j) else none
 |_,_=>none:=(rfl)
@[simp] def ev_I0'{g : Int->Int->D} : fI0 g fa fb env=match fa env, fb env with
 |some (.int i),some (.int j)=>some (g i j)
 |_,_=>none:=(rfl)
@[simp] def ev_Call:aL F' dds fs env=match fs env with|some xs=>F' (xs++dds)|none=>none:=by unfold aL;cases fs env<;>rfl
@[simp] def ev_B1:fB1 F' fs env=match fs env with|some xs=>F' xs|none=>none:=by unfold fB1;cases fs env<;>rfl
@[simp] def ev_NoP:gG env=some none:=(rfl)
@[simp] def ev_P:fP f env=match f env with|some (.int i)=>some (some i)|_=>none:=(rfl)
@[simp] def ev_seq:cR fa env=match fa env with|some (.lst ds)=>some ds|some (.tup ds)=>some ds|_=>none:=(rfl)
@[simp] def ev_TT:fTT env=some true:=(rfl)
@[simp] def ev_cat:Q0 fa fb env=match fa env,fb env with|some (.lst a),some (.lst b)=>if a.length+b.length<=1000 then some (.lst (a++b)) else none|_,_=>none:=(rfl)
def ev_Sl:fSl fa fl fh env=match fa env,fl env,fh env with
 |some (.lst ds),some lo,some hi=>if flats ds=true then some (.lst (cutD ds lo hi)) else none
 |some (.tup ds),some lo,some hi=>if flats ds=true/\¬(HT.sIx ds.length 0 lo=0/\HT.sIx ds.length ds.length hi=ds.length) then some (.tup (cutD ds lo hi)) else none
 |_,_,_=>none:=(rfl)
def ev_In:fIn fa fb env=match fa env,fb env with|some x,some y=>inF x y|_,_=>none:=(rfl)
def ev_join:iI fa fb env=match fa env,fb env with
 |some (.str x),some (.lst ds)=>match nS ds with
  |some ys=>if (ys.map (·.length)).sum+ys.length*x.length<=1000000 then some (.str (Txt.join x ys)) else none
  |none=>none
 |_,_=>none:=(rfl)
def ev_split:nC fa fb env=match fa env,fb env with
 |some (.str x),some (.str y)=>if (y.length==0)=false/\x.length<=5000/\(jE x y).length<=1000 then some (.lst ((jE x y).map .str)) else none
 |_,_=>none:=(rfl)
def ev_seqS:sH fa env=match fa env with|some (.str x)=>if x.cps.all (· < 128)=true then some (qG x) else none|_=>none:=(rfl)
def ev_SlW:Z1y fa fl fh env=match fa env,fl env,fh env with
 |some (.tup ds),some lo,some hi=>if flats ds=true then some (.tup (cutD ds lo hi)) else none
 |_,_,_=>none:=(rfl)
def ev_RevSl:P9 fa env=match fa env with|some (.lst ds)=>if flats ds=true then some (.lst ds.reverse) else none|_=>none:=(rfl)
def ev_CatF:G1 fa fb env=match fa env,fb env with|some (.lst a),some (.lst b)=>if (flats a=true/\flats b=true)/\a.length+b.length<=1000 then some (.lst (a++b)) else none|_,_=>none:=(rfl)
def ev_InK:Z1z fa fb env=match fa env,fb env with
 |some x,some (.dk ks ds)=>match keyOf x with
  |some k=>some (N6 k ks)
  |none=>none
 |_,_=>none:=(rfl)
@[simp] def ev_rNext:bF env=.next env:=(rfl)
@[simp] def ev_rIf:rIf c g h env=match c env with|some true=>g env|some false=>h env|none=>.bad:=(rfl)
@[simp] def ev_rRet:bQ f env=match f env with|some d=>.ret d|none=>.bad:=(rfl)
@[simp] def ev_rSet:bJ i f env=match f env with|some d=>.next (env.set i (some (true,d)))|none=>.bad:=(rfl)
@[simp] def ev_rSeq:aM g h env=match g env with | .next env'=>h env'|r=>r:=(rfl)
def LI(xs:Ab Int):D:=.lst (xs.map .int)
def eqN_int(n:Nat)(a b:Int):eqN (n+1) (.int a) (.int b)=some (decide (a=b)):=by simp only[eqN];congr
def eqN_str(n:Nat)(a b:Str):eqN (n+1) (.str a) (.str b)=some (a==b):=by simp only[eqN]
def eqN_bl(n:Nat)(a b:Bool):eqN (n+1) (.bl a) (.bl b)=some (a==b):=by simp only[eqN]
def eqN_non:eqN (n+1) .non .non=some true:=by simp only[eqN]
def eqN_tnon:eqN (n+1) (.tup xs) .non=some false:=by simp only[eqN]
def eqN_tup(n:Nat)(xs ys:Ab D):eqN (n+1) (.tup xs) (.tup ys)=(eqL (eqN n) xs ys).map (· && xs.length==ys.length):=by simp only[eqN]
def sI(n:Nat)(xs ys:Ab D):eqN (n+1) (.lst xs) (.lst ys)=if xs.length=ys.length then eqL (eqN n) xs ys else some false:=by simp only[eqN]
def eqL_cons:eqL f (x::xs) (y::ys)=match f x y,eqL f xs ys with|some a,some b=>some (a&&b)|_,_=>none:=by rw[eqL];try (cases f x y<;>cases eqL f xs ys<;>rfl)
def eqL_nil:eqL f [] ys=some true:=by simp only[eqL]
def eqL_nilL:eqL f xs []=some true:=by cases xs<;>simp only[eqL]
def atI_m3(x y z:α):atI [x,y,z] (-1)=some z:=rfl
def atI_m4(x y z w:α):atI [x,y,z,w] (-1)=some w:=rfl
def atI_0(x:α)(xs:Ab α):atI (x::xs) 0=some x:=gM (j:=0) rfl
def atI_1(x y:α)(xs:Ab α):atI (x::y::xs) 1=some y:=gM (j:=1) rfl
def atI_2(x y z:α)(xs:Ab α):atI (x::y::z::xs) 2=some z:=gM (j:=2) rfl
def atI_3(x y z w:α)(xs:Ab α):atI (x::y::z::w::xs) 3=some w:=gM (j:=3) rfl
def pO(h:-(2^64)<a)(e:a<2^64):IntMulOk a b:=.of_left (PySem.intBits_le_64 h e)
def pN(h:-(2^64)<b)(e:b<2^64):IntMulOk a b:=.of_right (PySem.intBits_le_64 h e)
def Z0Y(n:Nat):HT.sIx (n+1) 0 (some 1)=1:=by
 have:=HT.sIx_nat (n+1) 0 1;simpa using this
def Z4c(x:D)(xs:Ab D):PD.cutD (x::xs) (some 1) none=xs:=by
 unfold PD.cutD;rw[Qaf,Z0Y,HT.sIx_none];simp
def jD(xs:Ab D)(n:Nat):PD.cutD xs none (some (n:Int))=xs.take n:=by
 unfold PD.cutD;rw[HT.sIx_nat,HT.sIx_none];simp only[List.drop_zero,Nat.sub_zero];by_cases h:n<=xs.length
 .rw[Nat.min_eq_left h]
 .rw[Nat.min_eq_right (by omega),QaD,Qbo (by omega)]
def Z6L(xs:Ab D)(n:Nat):PD.cutD xs (some (n:Int)) none=xs.drop n:=by
 unfold PD.cutD;rw[HT.sIx_nat,HT.sIx_none];by_cases h:n<=xs.length
 .rw[Nat.min_eq_left h,Qbo (by simp)]
 .rw[Nat.min_eq_right (by omega),List.drop_of_length_le (by omega),List.drop_of_length_le (show xs.length<=n by omega)];simp
def nth(vs:Ab Int)(a:Int):Int:=vs.getD a.toNat 0
def iE{vs:Ab Int}{a:Int}(f:0<=a)(h1:a<vs.length):atI (vs.map D.int) a=some (.int (nth vs a)):=by
 have e:atI (vs.map D.int) ((a.toNat:Nat):Int)=some (.int (nth vs a)):=by
  refine gM ?_;have b:a.toNat<vs.length:=by omega
  simp[nth,List.getD,b]
 rwa [Qbj f]at e
def dP(xs:Ab Int):flats (xs.map D.int)=true:=mK λd hd=>by
 obtain⟨i,_,rfl⟩:=QaG.mp hd;rfl
def O7{n:Nat}{l:Int}(a:0<=l)(h1:l<n):ixN n l=some l.toNat:=by simp[ixN,a,h1]
theorem Z0a(I:Nat->En->Prop):∀(ds:Ab D) (k:Nat) (env:En),(∀i d env,ds[i]?=some d->I (k+i) env->∃f a,t d env=some f/\(g f=.next a\/g f=.cont a)/\I (k+i+1) a)->I k env ->
  ∃b,oV t g ds env=.next b/\I (k+ds.length) b
 |[],k,env,_,h=>⟨env,rfl,h⟩
 |d::ds,k,env,st,h=>by
  obtain⟨f,a,h1,j,n⟩:=st 0 d env rfl h;obtain⟨b,l,o⟩:=Z0a I ds (k+1) a (λi d' e hd hI=>by
   have:=st (i+1) d' e (by simpa using hd) (by rwa [show k+(i+1)=k+1+i by omega])
   rwa [show k+(i+1)+1=k+1+i+1 by omega]at this) n
  refine⟨b,?_,by rwa [Qaf,show k+(ds.length+1)=k+1+ds.length by omega]⟩;unfold oV;rw[h1];simp only;rcases j with j|j<;>(rw[j];exact l)
def aZ(h:g (enStart L ds)=.ret d):runF L g ds=some d:=by unfold runF;rw[h]
def Z7t(e:g env=.next env')(q:h env'=r):aM g h env=r:=by unfold aM;rw[e];exact q
def Z3C(e:src env=some ds)(h:oV t g ds (fz rs env)=.next env'):eQ rs src t g env=.next env':=by unfold eQ;rw[e];exact h
def dS(h:f env=some (.lst ds)):cR f env=some ds:=by unfold cR;rw[h]
def Z47(I:Nat->En->Prop){ds:Ab D}{env:En}(st:∀i d env,ds[i]?=some d->I i env->∃env1 env2,t d env=some env1/\(g env1=.next env2\/g env1=.cont env2)/\I (i+1) env2)(h:I 0 env) :
  ∃env',oV t g ds env=.next env'/\I ds.length env':=by
 have:=Z0a I ds 0 env (λi d e hd hI=>by rw[Qa7]at *;exact st i d e hd hI) h
 rwa [Qa7]at this
def gO(h:f env=some d)(q:k (env.set i (some (true,d)))=r):aM (bJ i f) k env=r:=by unfold aM bJ;rw[h];exact q
def tE(e:c env=some true)(q:aM g k env=r):aM (rIf c g h) k env=r:=by
 unfold aM rIf at *;rw[e];exact q
def sNo(e:c env=some false)(q:k env=r):aM (rIf c g bF) k env=r:=by
 unfold aM rIf;rw[e];exact q
def lY(h:f env=some d):aM (bQ f) k env=.ret d:=by unfold aM bQ;rw[h]
def bW(h:f env=some d):bQ f env=.ret d:=by unfold bQ;rw[h]
def Z25(h:f env=some d):bJ i f env=.next (env.set i (some (true,d))):=by unfold bJ;rw[h]
def Z3B(e:c env=some true)(q:g env=r):rIf c g h env=r:=by unfold rIf;rw[e];exact q
def Z0Z(e:c env=some false)(q:h env=r):rIf c g h env=r:=by unfold rIf;rw[e];exact q
def hJ(h:f env=some d)(e:env[i]?=some (some (true,.lst ds)))(a:ds.length<=1000):fU i f env=.next (env.set i (some (true,.lst (ds++[d])))):=by unfold fU;rw[h,e];simp[a]
theorem Z0b{g k:En->Res}(I:Nat->En->Prop):∀(ds:Ab D) (n:Nat) (env:En),(∀i d env,ds[i]?=some d->I (n+i) env->∃env1,t d env=some env1/\((∃env2,(g env1=.next env2\/g env1=.cont env2)/\I (n+i+1) env2)\/(∃d',g env1=.ret d'/\r=.ret d')\/(∃env2,g env1=.brk env2/\k env2=r)))->I n env ->
  (∀env',I (n+ds.length) env'->k env'=r)->(match oV t g ds env with | .next e=>k e|r=>r)=r
 |[],n,env,_,h,q=>by simpa[oV]using q env (by simpa using h)
 |d::ds,n,env,st,h,q=>by
  obtain⟨env1,h1,h2⟩:=st 0 d env rfl h;unfold oV;rw[h1];rcases h2 with⟨env2,h3,h4⟩|⟨d',h3,rfl⟩|⟨env2,h3,h4⟩
  .have ih:=Z0b (k:=k) (r:=r) I ds (n+1) env2 (λi d' e hd hI=>by
    have:=st (i+1) d' e (by simpa using hd) (by rwa [show n+(i+1)=n+1+i by omega])
    rwa [show n+(i+1)+1=n+1+i+1 by omega]at this) h4 (λe he=>q e (by rwa [Qaf,show n+(ds.length+1)=n+1+ds.length by omega]))
   rcases h3 with h3|h3<;>(simp only[h3];exact ih)
  .simp only[h3]
  .simp only[h3];exact h4
def ZbY(hs:src env=some ds)(I:Nat->En->Prop)(b:I 0 (fz rs env))
  (st:∀i d env,ds[i]?=some d->I i env->∃env1,t d env=some env1/\((∃env2,(g env1=.next env2\/g env1=.cont env2)/\I (i+1) env2)\/(∃d',g env1=.ret d'/\r=.ret d')\/(∃env2,g env1=.brk env2/\k env2=r)))
  (a:∀env',I ds.length env'->k env'=r):aM (eQ rs src t g) k env=r:=by
 unfold aM eQ;rw[hs];exact Z0b I ds 0 _ (λi d e hd hI=>by rw[Qa7]at *;exact st i d e hd hI) b (λe he=>a e (by rwa [Qa7]at he))
def iG(hs:src env=some ds)(I:Nat->En->Prop)(h:I 0 (fz rs env))
  (st:∀i d env,ds[i]?=some d->I i env->∃env1 env2,t d env=some env1/\g env1=.next env2/\I (i+1) env2)
  (f:∀env',I ds.length env'->k env'=r):aM (eQ rs src t g) k env=r :=
 ZbY hs I h (λi d e hd hI=>let ⟨e1,e2,a,b,c⟩:=st i d e hd hI;⟨e1,a,.inl ⟨e2,.inl b,c⟩⟩) f
theorem uL(b:α->D)(a:α->D):∀(xs:Ab α),(∀x∈xs,fe (some (false,b x)::env)=some (a x))->dM fTT fe env (xs.map b)=some (xs.map a)
 |[],_=>rfl
 |x::xs,h=>by
  have h1:=h x Qah;have e:=uL b a xs λy hy=>h y (Qab _ hy);simp only[Qak,dM,fTT,h1];rw[e]
def bI(a:α->D)(b:α->D){xs:Ab α}(hs:src env=some (xs.map a))(e:xs.length<=1000)(h:∀x∈xs,fe (some (false,a x)::kQ fr env)=some (b x)) :
  bL fr src fTT fe env=some (.lst (xs.map b)):=by
 unfold bL;rw[hs];simp only[Qaa,e,Rm];rw[uL a b xs h];rfl
theorem sJ(a:α->D)(b:α->D)(p:α->Bool):∀(xs:Ab α),(∀x∈xs,fc (some (false,a x)::env)=some (p x))->(∀x∈xs,p x=true->fe (some (false,a x)::env)=some (b x))->dM fc fe env (xs.map a)=some ((xs.filter p).map b)
 |[],_,_=>rfl
 |x::xs,hc,h=>by
  have h1:=hc x Qah;have e:=sJ a b p xs (λy hy=>hc y (Qab _ hy)) λy hy=>h y (Qab _ hy);simp only[Qak,dM,h1];cases hp:p x with
  |true =>
   have f:=h x Qah hp;simp only[f,e,List.filter_cons,hp,Rm,Qak]
  |false=>simp only[e,List.filter_cons,hp];simp
def jZ(a:α->D)(b:α->D)(p:α->Bool){xs:Ab α}(hs:src env=some (xs.map a))(e:xs.length<=1000)(hc:∀x∈xs,fc (some (false,a x)::kQ fr env)=some (p x))(h:∀x∈xs,p x=true->fe (some (false,a x)::kQ fr env)=some (b x)) :
  bL fr src fc fe env=some (.lst ((xs.filter p).map b)):=by
 unfold bL;rw[hs];simp only[Qaa,e,Rm];rw[sJ a b p xs hc h];rfl
def aJ(h:fs env=some xs)(q:F' (xs++dds)=r):aL F' dds fs env=r:=by unfold aL;rw[h];exact q
def eY(h:fs env=some xs)(q:F' xs=r):sB1 F' fs env=r:=by unfold sB1;rw[h];exact q
def cM(h:fs env=some xs)(q:F' xs=r):fB1 F' fs env=r:=by unfold fB1;rw[h];exact q
def aI(h:f env=some d)(q:fs env=some ds):aC f fs env=some (d::ds):=by unfold aC;rw[h,q]
def Zc2(a:0<=j)(h1:j<=1000):fR [.int j]=some ((List.range j.toNat).map λ(k:Nat)=>.int (0+(k:Int))):=by
 simp only[fR];rw[if_pos (by omega)]
def xO{n:Nat}(h1:n<=1000):fR [.int (n:Int)]=some ((List.range n).map λ(k:Nat)=>.int (k:Int)):=by
 rw[Zc2 (by omega) (by omega),QaO];congr 1;apply Qbh;intro a _;congr 1;omega
def Z3y{j:Int}{n:Nat}(e:j=(n:Int))(h:n<=1000):fR [.int j]=some ((List.range n).map λ(k:Nat)=>.int (k:Int)):=by
 rw[e];exact xO h
def cY{l:Ab α}(h:l[i]?=some x):l.take (i+1)=l.take i++[x]:=by
 obtain⟨hi,e⟩:=Qae.mp h;rw[Qbm,h];rfl
def dW{l:Ab α}{i:Nat}(h:(l.map f)[i]?=some y):∃x,l[i]?=some x/\y=f x:=by
 rw[QaA]at h;cases e:l[i]? with
 |none=>rw[e]at h;cases h
 |some x=>rw[e]at h;cases h;exact⟨x,rfl,rfl⟩
def Z1f{l:Ab α}(h:(l.mapIdx f)[i]?=some y):∃x,l[i]?=some x/\y=f i x:=by
 rw[List.getElem?_mapIdx]at h;cases e:l[i]? with
 |none=>rw[e]at h;cases h
 |some x=>rw[e]at h;cases h;exact⟨x,rfl,rfl⟩
def fJ{y:D}(h:((List.range n).map f)[i]?=some y):i<n/\y=f i:=by
 obtain⟨x,h1,rfl⟩:=dW h;rw[List.getElem?_range]at h1
 .cases h1;have hi:i<n:=by
   by_cases z:i<n
   .exact z
   .rw[Qay (by simp;omega)]at h;cases h
  exact⟨hi,rfl⟩
 .by_cases z:i<n
  .exact z
  .rw[Qay (by simp;omega)]at h;cases h
def Z7r(n:Nat):(0:Int)<1*2^n:=by rw[Qbt];exact Int.pow_pos (by decide)
def O1(n:Nat):(2^n).log2=n:=by
 rw[Nat.log2_eq_iff (QbC (Qbp n))];exact⟨Qan _,Nat.pow_lt_pow_right (by decide) (Nat.lt_succ_self n)⟩
def zI(h:n<9000):fS i (1*2^n):=by
 refine⟨Z7r n,?_⟩;rw[Qbt,Int.natAbs_pow];show(2^n).log2<9000;rw[O1];exact h
def Wp(r:Res)(Q:Res->Prop):Prop:=Q r
def Rt(P:D->Prop):Res->Prop:=λr=>∃d,r=.ret d/\P d
section
variable {Q:Res->Prop}{env:En}{k g h:En->Res}{f:En->Aa D}{c:En->Aa Bool}{i:Nat}{d:D}{P:D->Prop}
def Z7E(w:Wp (g (enStart L ds)) (Rt P)):∃d,runF L g ds=some d/\P d:=by
 obtain⟨d,e,p⟩:=w;exact⟨d,aZ e,p⟩
def sV(e:f env=some d)(q:Wp (k (env.set i (some (true,d)))) Q):Wp (aM (bJ i f) k env) Q:=by unfold aM bJ;rw[e];exact q
def Z1R(e:f env=some d)(q:Q (.next (env.set i (some (true,d))))):Wp (bJ i f env) Q:=by unfold bJ;rw[e];exact q
def Z9k(e:c env=some true)(q:Wp (aM g k env) Q):Wp (aM (rIf c g h) k env) Q:=by unfold aM rIf at *;rw[e];exact q
def T8(e:c env=some true)(q:Wp (g env) Q):Wp (rIf c g h env) Q:=by unfold rIf at *;rw[e];exact q
def T9(e:c env=some false)(q:Wp (h env) Q):Wp (rIf c g h env) Q:=by unfold rIf at *;rw[e];exact q
def wNo(e:c env=some false)(q:Wp (k env) Q):Wp (aM (rIf c g bF) k env) Q:=by unfold aM rIf;rw[e];exact q
def ZbJ(e:f env=some d)(q:Q (.ret d)):Wp (bQ f env) Q:=by unfold bQ;rw[e];exact q
def Z1S(h:f env=some d)(e:env[i]?=some (some (true,.lst ds)))(a:ds.length<=1000)(q:Q (.next (env.set i (some (true,.lst (ds++[d])))))):Wp (fU i f env) Q:=by
 rw[hJ h e a];exact q
def ZaA{a:En->Aa D}{ds:Ab D}(h:f env=some d)(n:a env=some (.int j))(e:env[i]?=some (some (true,.lst ds)))(l:0<=j)(h1:j<ds.length)(b:flats ds=true)(hd:flat d=true)(q:Q (.next (env.set i (some (true,.lst (ds.set j.toNat d)))))):Wp (W7 i a f env) Q:=by
 unfold W7;simp only[h,n,e,O7 l h1,b,hd];simpa[Wp]using q
def Z7b(M:En->Prop)(h1:Wp (g env) (λr=>∃e,r=.next e/\M e))(b:∀e,M e->Wp (k e) Q):Wp (aM g k env) Q:=by
 obtain⟨e,f,a⟩:=h1;unfold aM;rw[f];exact b e a
def Z4K(e:env[i]?=some (some (true,d)))(q:Q (.ret d)):Wp (jA i env) Q:=by
 unfold jA;simp only[e];exact q
def ZbZ(w:Wp (g (enStart L ds)) (λr=>r=.ret d)):runF L g ds=some d:=aZ w
def Z4J(e:env[i]?=some (some (true,.lst xs)))(a:f env=some (.lst ys))(h1:flats xs=true)(b:xs.length+ys.length<=1000)(q:Q (.next (env.set j (some (true,.lst (xs++ys)))))):Wp (gJ j i f env) Q:=by
 unfold gJ;simp only[e,a,h1,b,and_self,Rm];exact q
def Tn(I:En->Prop)(k:En->Res)(Q:Res->Prop):Res->Prop
 | .next e=>I e
 | .cont e=>I e
 | .brk e=>Wp (k e) Q
 | .ret d=>Q (.ret d)
 | .bad=>False
theorem Z2J(I:Nat->En->Prop):∀(ds:Ab D) (n:Nat) (env:En),(∀i d env,ds[i]?=some d->I (n+i) env->∃env1,t d env=some env1/\Wp (g env1) (Tn (I (n+i+1)) k Q))->I n env ->
  (∀env',I (n+ds.length) env'->Wp (k env') Q)->Wp (match oV t g ds env with | .next e=>k e|r=>r) Q
 |[],n,env,_,h,q=>by simpa[oV]using q env (by simpa using h)
 |d::ds,n,env,st,h,q=>by
  obtain⟨env1,h1,h2⟩:=st 0 d env rfl h;unfold oV;rw[h1];have ih:∀env2,I (n+0+1) env2->Wp (match oV t g ds env2 with | .next e=>k e|r=>r) Q:=λenv2 h4=>Z2J I ds (n+1) env2 (λi d' e hd hI=>by
    have:=st (i+1) d' e (by simpa using hd) (by rwa [show n+(i+1)=n+1+i by omega])
    rwa [show n+(i+1)+1=n+1+i+1 by omega]at this) h4 (λe he=>q e (by rwa [Qaf,show n+(ds.length+1)=n+1+ds.length by omega]))
  unfold Wp at h2;cases e1:g env1 with
  |next e=>rw[e1]at h2;simp only[e1];exact ih e h2
  |cont e=>rw[e1]at h2;simp only[e1];exact ih e h2
  |brk e=>rw[e1]at h2;simp only[e1];exact h2
  |ret d'=>rw[e1]at h2;simp only[e1];exact h2
  |bad=>rw[e1]at h2;exact h2.elim
def ZbK(hs:src env=some ds)(I:Nat->En->Prop)(b:I 0 (fz rs env))
  (st:∀i d env,ds[i]?=some d->I i env->∃env1,t d env=some env1/\Wp (g env1) (Tn (I (i+1)) k Q))
  (a:∀env',I ds.length env'->Wp (k env') Q):Wp (aM (eQ rs src t g) k env) Q:=by
 unfold aM eQ;rw[hs];exact Z2J I ds 0 _ (λi d e hd hI=>by rw[Qa7]at *;exact st i d e hd hI) b (λe he=>a e (by rwa [Qa7]at he))
def Z4L(hs:src env=some ds)(I:Nat->En->Prop)(b:I 0 (fz rs env))
  (st:∀i d env (R:Res->Prop),ds[i]?=some d->I i env->(∀e,I (i+1) e->R (.next e))->∃env1,t d env=some env1/\Wp (g env1) R)
  (a:∀env',I ds.length env'->Wp (k env') Q):Wp (aM (eQ rs src t g) k env) Q :=
 ZbK hs I b (λi d e hd hI=>st i d e _ hd hI λ_ z=>z) a
end
end PD
namespace G
open PySem PySem.Spec PyProof.Rows L2 PD
inductive Kd where|and|or|xor deriving DecidableEq
def Kd.s:Kd->Str | .and => "and" | .or => "or" | .xor => "xor"
inductive Row where|fix (b:Int)|not (a:Int)|bin (k:Kd) (a b:Int)
def Row.d:Row->D
 | .fix b=>.tup [.str "fix",.int b]
 | .not a=>.tup [.str "not",.int a]
 | .bin k a b=>.tup [.str k.s,.int a,.int b]
inductive Flt where|none|wire (w b:Int)|leg (w l b:Int)
def Flt.d:Flt->D
 | .none=>.non
 | .wire w b=>.tup [.str "wire",.int w,.int b]
 | .leg w l b=>.tup [.str "leg",.int w,.int l,.int b]
def ZaK:((Str.ofString "wire")==(Str.ofString "leg"))=false:=by decide +kernel
def ZaM:((Str.ofString "leg")==(Str.ofString "wire"))=false:=by decide +kernel
def ZbV:((Str.ofString "wire")==(Str.ofString "wire"))=true:=by decide +kernel
def Z7z:((Str.ofString "fix")==(Str.ofString "fix"))=true:=by decide +kernel
def Z3j:((Str.ofString "not")==(Str.ofString "fix"))=false:=by decide +kernel
def Z3s(k:Kd):(k.s==(Str.ofString "fix"))=false:=by cases k<;>decide +kernel
def ZaO(k:Kd):(k.s==(Str.ofString "not"))=false:=by cases k<;>decide +kernel
def ZbW:((Str.ofString "not")==(Str.ofString "not"))=true:=by decide +kernel
def ZaP(k:Kd):(k.s==(Str.ofString "and"))=decide (k=.and):=by cases k<;>decide +kernel
def ZaN(k:Kd):(k.s==(Str.ofString "or"))=decide (k=.or):=by cases k<;>decide +kernel
def ZbX:((Str.ofString "leg")==(Str.ofString "leg"))=true:=by decide +kernel
def mJ(f:Flt):flat f.d=true:=by cases f<;>rfl
def cC(v w o:Int):Flt->Int
 | .wire w' b=>if w'=w then o*b else v
 |_=>v
def Row.ws:Row->Ab Int
 | .fix _=>[]
 | .not a=>[a]
 | .bin _ a b=>[a,b]
def legs(r:Row)(w:Int)(vs:Ab Int)(o:Int)(f:Flt):Ab Int:=match f with
 | .leg w' l b=>if w'=w then(r.ws.map (nth vs)).set l.toNat (o*b) else r.ws.map (nth vs)
 |_=>r.ws.map (nth vs)
def iR(r:Row)(ls:Ab Int)(o:Int):Int:=match r with
 | .fix b=>o*b
 | .not _=>Builtin.bitXor o (nth ls 0)
 | .bin .and _ _=>Builtin.bitAnd (nth ls 0) (nth ls 1)
 | .bin .or _ _=>Builtin.bitOr (nth ls 0) (nth ls 1)
 | .bin .xor _ _=>Builtin.bitXor (nth ls 0) (nth ls 1)
def bD(C:Af)(ins:Int)(rows:Ab Row)(outs:Ab Int):D:=.obj C ["ins","rows","outs"] [.int ins,.lst (rows.map Row.d),LI outs]
def sC(h:fa env=some (bD C ins rows outs)):gH C "rows" fa env=some (.lst (rows.map Row.d)):=by
 have h1:(Str.ofString "rows" == Str.ofString "ins")=false:=by decide +kernel
 simp[gH,h,bD,QaL,h1]
def pV(h:fa env=some (bD C ins rows outs)):gH C "ins" fa env=some (.int ins):=by
 simp[gH,h,bD,QaL]
def zC(h:fa env=some (bD C ins rows outs)):gH C "outs" fa env=some (LI outs):=by
 have h1:(Str.ofString "outs" == Str.ofString "ins")=false:=by decide +kernel
 have a:(Str.ofString "outs" == Str.ofString "rows")=false:=by decide +kernel
 simp[gH,h,bD,QaL,h1,a]
def cH(o:Int)(f:Flt):Ab Int->Ab Int->Ab Int
 |vs,[]=>vs
 |vs,s::r=>cH o f (vs++[cC s vs.length o f]) r
def eO(o:Int)(f:Flt):Ab Int->Ab Row->Ab Int
 |vs,[]=>vs
 |vs,r::rs=>eO o f (vs++[cC (iR r (legs r vs.length vs o f) o) vs.length o f]) rs
theorem gX(o:Int)(f:Flt):∀(ss vs:Ab Int),(cH o f vs ss).length=vs.length+ss.length
 |[],vs=>by simp[cH]
 |s::r,vs=>by simp only[cH];rw[gX o f r];simp;omega
theorem tG(o:Int)(f:Flt):∀(rs:Ab Row) (vs:Ab Int),(eO o f vs rs).length=vs.length+rs.length
 |[],vs=>by simp[eO]
 |r::rs,vs=>by simp only[eO];rw[tG o f rs];simp;omega
theorem mP(o:Int)(f:Flt):∀(ss vs:Ab Int) (s:Int),cH o f vs (ss++[s])=cH o f vs ss++[cC s (cH o f vs ss).length o f]
 |[],vs,s=>by simp[cH]
 |a::ss,vs,s=>by simp only[Qa5,cH];rw[mP o f ss]
theorem qJ(o:Int)(f:Flt):∀(rs:Ab Row) (vs:Ab Int) (r:Row),eO o f vs (rs++[r])=eO o f vs rs++[cC (iR r (legs r (eO o f vs rs).length (eO o f vs rs) o f) o) (eO o f vs rs).length o f]
 |[],vs,s=>by simp[eO]
 |a::ss,vs,s=>by simp only[Qa5,eO];rw[qJ o f ss]
def RowOk(n:Int):Row->Prop
 | .fix b=>b=0\/b=1
 | .not a=>0<=a/\a<n
 | .bin _ a b=>(0<=a/\a<n)/\0<=b/\b<n
theorem RowOk.ws(h:RowOk n r):∀a∈r.ws,0<=a/\a<n:=by
 cases r with
 |fix b=>intro a f;cases f
 |not a=>intro b e;simp[Row.ws]at e;subst e;exact h
 |bin k a b=>intro c hc;simp[Row.ws]at hc;exact hc.elim (λz=>z ▸ h.1) (λz=>z ▸ h.2)
def RowsOk(ins:Nat)(rows:Ab Row):Prop:=∀k r,rows[k]?=some r->RowOk ((ins+k:Nat):Int) r
structure FltOk(ins:Nat)(rows:List Row)(f:Flt):Prop where
 w:∀w b,f=.wire w b->b=0\/b=1
 l:∀w l b,f=.leg w l b->b=0\/b=1
 leg:∀w l b k r,f=.leg w l b->rows[k]?=some r->w=((ins+k:Nat):Int)->0<=l/\l<r.ws.length
def FltOk.no:FltOk ins rows .none:=⟨λ_ _ z=>(by cases z),λ_ _ _ z=>(by cases z),λ_ _ _ _ _ z=>(by cases z)⟩
def Z65(r:Row)(w:Int)(vs:Ab Int)(o:Int)(f:Flt):(legs r w vs o f).length=r.ws.length:=by
 unfold legs;split
 .split<;>simp
 .simp
def sS(h:b=0\/b=1):IntMulOk o b:=by rcases h with z|z<;>(subst z;exact pN (by decide) (by decide))
def iQ(n:Nat)(g:Int):Ab Int:=(List.range n).map λk=>(g/2^k)%2
def zP(ins:Nat)(rows:Ab Row)(g:Int)(f:Flt):Ab Int:=eO 1 f (cH 1 f [] (iQ ins g)) rows
def iZ(o:Int)(f:Flt)(ss:Ab Int)(rows:Ab Row):Ab Int:=eO o f (cH o f [] ss) rows
def pC(o:Int)(f:Flt)(ss:Ab Int)(rows:Ab Row):(iZ o f ss rows).length=ss.length+rows.length:=by
 unfold iZ;rw[tG,gX];simp
theorem qI(o:Int)(f:Flt):∀(rs:Ab Row) (vs:Ab Int) (k:Nat),k<=rs.length->(eO o f vs rs).take (vs.length+k)=eO o f vs (rs.take k)
 |[],vs,k,h=>by
  have:k=0:=by simpa using h
  subst this;simp[eO]
 |r::rs,vs,0,h=>by
  have a:=qI o f rs (vs++[cC (iR r (legs r vs.length vs o f) o) vs.length o f]) 0 (Qa2 _);simp only[eO,List.take_zero,Nat.add_zero]at a ⊢;have e:(eO o f (vs++[cC (iR r (legs r vs.length vs o f) o) vs.length o f]) rs).take vs.length=((eO o f (vs++[cC (iR r (legs r vs.length vs o f) o) vs.length o f]) rs).take (vs++[cC (iR r (legs r vs.length vs o f) o) vs.length o f]).length).take vs.length:=by
   rw[List.take_take];congr 1;simp
  rw[e,a];simp
 |r::rs,vs,k+1,h=>by
  have a:=qI o f rs (vs++[cC (iR r (legs r vs.length vs o f) o) vs.length o f]) k (by simpa using h);simp only[eO,QbB];rw[<- a];congr 1;simp;omega
theorem mO(o:Int)(f:Flt):∀(ss vs:Ab Int) (k:Nat),k<=ss.length->(cH o f vs ss).take (vs.length+k)=cH o f vs (ss.take k)
 |[],vs,k,h=>by
  have:k=0:=by simpa using h
  subst this;simp[cH]
 |s::ss,vs,0,h=>by
  have a:=mO o f ss (vs++[cC s vs.length o f]) 0 (Qa2 _);simp only[cH,List.take_zero,Nat.add_zero]at a ⊢;have e:(cH o f (vs++[cC s vs.length o f]) ss).take vs.length=((cH o f (vs++[cC s vs.length o f]) ss).take (vs++[cC s vs.length o f]).length).take vs.length:=by
   rw[List.take_take];congr 1;simp
  rw[e,a];simp
 |s::ss,vs,k+1,h=>by
  have a:=mO o f ss (vs++[cC s vs.length o f]) k (by simpa using h);simp only[cH,QbB];rw[<- a];congr 1;simp;omega
def kD(h:k<=rows.length):(iZ o f ss rows).take (ss.length+k)=iZ o f ss (rows.take k):=by
 have:=qI o f rows (cH o f [] ss) k h;rw[gX]at this;simpa[iZ]using this
def zS(h:k<=ss.length):(iZ o f ss rows).take k=cH o f [] (ss.take k):=by
 have h1:=kD (o:=o) (f:=f) (ss:=ss) (rows:=rows) (k:=0) (Qa2 _);have e:(iZ o f ss rows).take k=((iZ o f ss rows).take (ss.length+0)).take k:=by rw[List.take_take];congr 1;omega
 have a:=mO o f ss [] k h;rw[e,h1];simpa[iZ,eO]using a
def D6{l a:Ab α}(h:l.take (i+1)=a++[x])(b:i<l.length):l.take i=a/\l[i]?=some x:=by
 have h1:l.take (i+1)=l.take i++[l[i]]:=by rw[Qbm,Qaj b];rfl
 rw[h1]at h;obtain⟨e,f⟩:=List.append_inj' h rfl;refine⟨e,?_⟩;rw[Qaj b];simpa using f
def wV{f:Flt}{i:Nat}(h:ss[i]?=some s):(iZ o f ss rows)[i]?=some (cC s i o f):=by
 have hi:i<ss.length:=(Qae.mp h).1;have h1:=zS (o:=o) (f:=f) (rows:=rows) (show i+1<=ss.length from hi)
 rw[cY h,mP,gX]at h1;have a:=(D6 h1 (by rw[pC];omega)).2;rw[a];congr 2;simp;omega
def sW{f:Flt}(h:rows[k]?=some r) :
  (iZ o f ss rows)[ss.length+k]?=some (cC (iR r (legs r ((ss.length+k:Nat):Int) ((iZ o f ss rows).take (ss.length+k)) o f) o) ((ss.length+k:Nat):Int) o f):=by
 have e:k<rows.length:=(Qae.mp h).1;have h1:=kD (o:=o) (f:=f) (ss:=ss) (show k+1<=rows.length from e)
 have b:=kD (o:=o) (f:=f) (ss:=ss) (show k<=rows.length from Qbe e)
 have a:(iZ o f ss (rows.take k)).length=ss.length+k:=by rw[pC];simp;omega
 rw[cY h]at h1;unfold iZ at h1 b a;rw[qJ,a]at h1;have j:=(D6 (l:=iZ o f ss rows) (i:=ss.length+k) (by rw[<- h1];rfl) (by rw[pC];omega)).2;rw[j];show _=some (cC (iR r (legs r _ ((eO o f (cH o f [] ss) rows).take (ss.length+k)) o f) o) _ o f);rw[b]
def Bt(x:Int):Prop:=x=0\/x=1
instance (x:Int):Decidable (Bt x):=inferInstanceAs (Decidable (x=0\/x=1))
def Z8H(h:Bt x):Builtin.bitXor 1 x=1-x:=by rcases h with z|z<;>(subst z;decide)
def Z1J(h:Bt x):Bt (Builtin.bitXor 1 x):=by rw[Z8H h];rcases h with z|z<;>(subst z;decide)
def Z4v(h:Bt x)(k:Bt y):Bt (Builtin.bitAnd x y):=by rcases h with z|z<;>rcases k with w|w<;>(subst z;subst w;decide)
def Z6S(h:Bt x)(k:Bt y):Bt (Builtin.bitOr x y):=by rcases h with z|z<;>rcases k with w|w<;>(subst z;subst w;decide)
def Z4u(h:Bt x)(k:Bt y):Bt (Builtin.bitXor x y):=by rcases h with z|z<;>rcases k with w|w<;>(subst z;subst w;decide)
def iU{i:Nat}(h:vs[i]?=some x)(e:a=(i:Int)):nth vs a=x:=by
 subst e;simp[nth,List.getD,h]
def N4(e:0<=a)(h1:a<vs.length):nth vs a∈vs:=by
 have b:a.toNat<vs.length:=by omega
 have:vs[a.toNat]?=some (vs[a.toNat]):=Qaj b;unfold nth;rw[List.getD,this];exact List.getElem_mem b
def mW(h:∀x∈vs,Bt x)(a:Int):Bt (nth vs a):=by
 unfold nth;cases e:vs[a.toNat]? with
 |none=>left;simp[List.getD,e]
 |some x=>rw[List.getD,e];exact h x (QaK e)
def Z2v(h:∀x∈vs,Bt x)(j:∀w l b,f=.leg w l b->b=0\/b=1):∀x∈legs r w vs 1 f,Bt x:=by
 have i:∀x∈r.ws.map (nth vs),Bt x:=λx e=>by
  obtain⟨a,_,rfl⟩:=QaG.mp e;exact mW h a
 intro x e;unfold legs at e;split at e
 .rename_i w' l b;split at e
  .rcases Qbz e with z|z
   .exact i x z
   .rw[z,Qbt];exact j _ _ _ rfl
  .exact i x e
 .exact i x e
def Z8w(h:∀x∈ls,Bt x)(e:RowOk n r):Bt (iR r ls 1):=by
 cases r with
 |fix b=>show Bt (1*b);rw[Qbt];exact e
 |not a=>exact Z1J (mW h 0)
 |bin k a b=>cases k with
  |and=>exact Z4v (mW h 0) (mW h 1)
  |or=>exact Z6S (mW h 0) (mW h 1)
  |xor=>exact Z4u (mW h 0) (mW h 1)
def E6(h:Bt v)(a:∀w b,f=.wire w b->b=0\/b=1):Bt (cC v w 1 f):=by
 unfold cC;split
 .split
  .rw[Qbt];exact a _ _ rfl
  .exact h
 .exact h
theorem xE(a:∀w b,f=.wire w b->b=0\/b=1):∀(ss vs:Ab Int),(∀x∈vs,Bt x)->(∀x∈ss,Bt x)->∀x∈cH 1 f vs ss,Bt x
 |[],vs,h,_=>h
 |s::ss,vs,h,hs=>by
  simp only[cH];refine xE a ss _ (λx hx=>?_) λx hx=>hs x (Qab _ hx);rcases Qai.mp hx with z|z
  .exact h x z
  .have:x=cC s vs.length 1 f:=by simpa using z
   rw[this];exact E6 (hs s Qah) a
theorem V7(e:∀w b,f=.wire w b->b=0\/b=1)(a:∀w l b,f=.leg w l b->b=0\/b=1):∀(rs:Ab Row) (vs:Ab Int),(∀x∈vs,Bt x)->(∀r∈rs,∃n,RowOk n r)->∀x∈eO 1 f vs rs,Bt x
 |[],vs,h,_=>h
 |r::rs,vs,h,hs=>by
  simp only[eO];refine V7 e a rs _ (λx hx=>?_) λx hx=>hs x (Qab _ hx);rcases Qai.mp hx with z|z
  .exact h x z
  .have:x=cC (iR r (legs r vs.length vs 1 f) 1) vs.length 1 f:=by simpa using z
   obtain⟨n,i⟩:=hs r Qah;rw[this];exact E6 (Z8w (Z2v h a) i) e
def P2(n:Nat)(g:Int):∀x∈iQ n g,Bt x:=λx hx=>by
 obtain⟨k,_,rfl⟩:=QaG.mp hx;have a:=QaB (g/2^k) (show(2:Int)≠0 by decide);have h1:=Qas (g/2^k) (show(0:Int)<2 by decide);show _\/_;omega
def Z6X(e:RowsOk ins rows)(a:FltOk ins rows f):∀x∈zP ins rows g f,Bt x:=by
 refine V7 a.w a.l rows _ (xE a.w _ _ (λx hx=>(by cases hx)) (P2 ins g)) λr hr'=>?_;obtain⟨k,b⟩:=Qby hr';exact⟨_,e k r b⟩
def Z6W(h:i<ins):(zP ins rows g f)[i]?=some (cC (g/2^i%2) i 1 f) :=
 wV (ss:=iQ ins g) (by simp[iQ,h])
def Z4y(h:rows[k]?=some r) :
  (zP ins rows g f)[ins+k]?=some (cC (iR r (legs r ((ins+k:Nat):Int) ((zP ins rows g f).take (ins+k)) 1 f) 1) ((ins+k:Nat):Int) 1 f):=by
 have:=sW (o:=1) (f:=f) (ss:=iQ ins g) h;have a:(iQ ins g).length=ins:=by simp[iQ]
 rw[a]at this;exact this
theorem E5:∀(n a b:Nat),a<=n->a ||| b=(a ^^^ b)+(a &&& b)
 |n,0,b,_=>by simp
 |0,a+1,b,h=>by omega
 |n+1,a+1,b,h=>by
  have f:=E5 n ((a+1)/2) (b/2) (by omega);have o:=congrArg (· = true) (Nat.testBit_or (a+1) b 0);have x:=congrArg (· = true) (Nat.testBit_xor (a+1) b 0);have d:=congrArg (· = true) (Nat.testBit_and (a+1) b 0);simp only[Nat.testBit_zero,Bool.or_eq_true,QaE,Rl]at o x d;rw[<- Nat.or_div_two,<- Nat.xor_div_two,<- Nat.and_div_two]at f;generalize a+1=A at *
  generalize A ||| b=O at *
  generalize A ^^^ b=X at *
  generalize A &&& b=N at *
  have j:O%2=1↔A%2=1\/b%2=1:=by rw[o]
  have hd:N%2=1↔A%2=1/\b%2=1:=by rw[d]
  have i:X%2=1↔¬(A%2=1↔b%2=1):=by
   rw[x];by_cases h1:A%2=1<;>by_cases e:b%2=1<;>simp[h1,e]
  by_cases h1:A%2=1<;>by_cases e:b%2=1<;>simp only[h1,e,or_self,or_true,true_or,and_self,and_true,true_and,and_false,false_and,iff_self,not_true,iff_true,iff_false,or_false,false_or,not_false_iff]at j hd i<;>omega
def Z0u(a:Nat):¬(0:Int)<=Builtin.bitNot (a:Int):=by unfold Builtin.bitNot;omega
def Z6Z(a:Int):Builtin.bitNot (Builtin.bitNot a)=a:=by unfold Builtin.bitNot;omega
def Z0v(a b:Nat):Builtin.bitAnd (a:Int) (b:Int)=((a &&& b:Nat):Int):=by
 simp[Builtin.bitAnd]
def Z2U(a b:Nat):Builtin.bitOr (a:Int) (b:Int)=((a ||| b:Nat):Int):=by
 unfold Builtin.bitOr Builtin.bitAnd;rw[Rj (Z0u a),Rj (Z0u b)];simp only[Z6Z,QaO]
def Z6Y(a b:Nat):Builtin.bitXor (a:Int) (b:Int)=((a ^^^ b:Nat):Int):=by
 unfold Builtin.bitXor;rw[Z2U,Z0v,E5 a a b (Qan _)];omega
def tabN:Nat->(Nat->Bool)->Nat
 |0,_=>0
 |n+1,b=>tabN n b+(if b n then 2^n else 0)
theorem iT:∀(n:Nat) (b:Nat->Bool),tabN n b<2^n
 |0,b=>by simp[tabN]
 |n+1,b=>by
  have:=iT n b;simp only[tabN,Nat.pow_succ];split<;>omega
theorem cZ:∀(n:Nat) (b:Nat->Bool) (g:Nat),(tabN n b).testBit g=(decide (g<n)&&b g)
 |0,b,g=>by simp[tabN]
 |n+1,b,g=>by
  have e:=cZ n b g;have h:=iT n b;simp only[tabN];cases f:b n with
  |true =>
   simp only[Rm];rw[Nat.add_comm];by_cases h1:g<n
   .rw[Nat.testBit_two_pow_add_gt h1,e];simp[h1,Nat.lt_succ_of_lt h1]
   .by_cases a:g=n
    .subst a;rw[Nat.testBit_two_pow_add_eq,e];simp[f]
    .rw[Nat.testBit_lt_two_pow]
     .simp[show ¬g<n+1 by omega]
     .have:2^(n+1)<=2^g:=Qa6 (by decide) (by omega);rw[Nat.pow_succ]at this;omega
  |false =>
   simp only[QaZ,Rn,Nat.add_zero];rw[e];by_cases a:g=n
   .subst a;simp[f]
   .by_cases h1:g<n
    .simp[h1,Nat.lt_succ_of_lt h1]
    .simp[h1,show ¬g<n+1 by omega]
def Z0N(h:∀g,g<n->a g=b g):tabN n a=tabN n b:=by
 apply Nat.eq_of_testBit_eq;intro g;rw[cZ,cZ];by_cases e:g<n
 .simp[e,h g e]
 .simp[e]
def pE(h1:x<2^n)(h:∀g,g<n->x.testBit g=b g):x=tabN n b:=by
 apply Nat.eq_of_testBit_eq;intro g;rw[cZ];by_cases a:g<n
 .simp[a,h g a]
 .have:x<2^g:=QaJ h1 (Qa6 (by decide) (by omega));rw[Nat.testBit_lt_two_pow this];simp[a]
def tab(n:Nat)(b:Nat->Bool):Int:=(tabN n b:Int)
def eD(h:∀g,g<n->a g=b g):tab n a=tab n b:=by unfold tab;rw[Z0N h]
def Z7i(n:Nat)(a b:Nat->Bool):Builtin.bitAnd (tab n a) (tab n b)=tab n (λg=>a g&&b g):=by
 unfold tab;rw[Z0v];congr 1;refine pE (Nat.lt_of_le_of_lt Nat.and_le_left (iT n a)) λg hg=>?_;rw[Nat.testBit_and,cZ,cZ];simp[hg]
def J3(n:Nat)(a b:Nat->Bool):Builtin.bitOr (tab n a) (tab n b)=tab n (λg=>a g||b g):=by
 unfold tab;rw[Z2U];congr 1;refine pE (Nat.or_lt_two_pow (iT n a) (iT n b)) λg hg=>?_;rw[Nat.testBit_or,cZ,cZ];simp[hg]
def wE(n:Nat)(a b:Nat->Bool):Builtin.bitXor (tab n a) (tab n b)=tab n (λg=>a g ^^ b g):=by
 unfold tab;rw[Z6Y];congr 1;refine pE (Nat.xor_lt_two_pow (iT n a) (iT n b)) λg hg=>?_;rw[Nat.testBit_xor,cZ,cZ];simp[hg]
def Z37(n:Nat):tabN n (λ_=>true)=2^n-1:=by
 symm;refine pE (by have:=Qbp n;omega) λg hg=>?_;rw[Nat.testBit_two_pow_sub_one];simp[hg]
theorem pD:∀(n:Nat),tabN n (λ_=>false)=0
 |0=>rfl
 |n+1=>by simp[tabN,pD n]
def bE(n:Nat):Int:=2^n-1
def rH(n:Nat):tab n (λ_=>true)=bE n:=by
 unfold tab bE;rw[Z37];have:=Qbp n;rw[Int.ofNat_sub (by omega)];simp
def Z1V(n:Nat){b:Int}(h:b=0\/b=1):bE n*b=tab n (λ_=>decide (b=1)):=by
 rcases h with z|z
 .subst z;have:(λ_:Nat=>decide ((0:Int)=1))=λ_=>false:=by funext;decide
  rw[this,Int.mul_zero];unfold tab;rw[pD];rfl
 .subst z;have:(λ_:Nat=>decide ((1:Int)=1))=λ_=>true:=by funext;decide
  rw[this,Int.mul_one,rH]
def Z1U(n:Nat)(b:Nat->Bool):Builtin.bitXor (bE n) (tab n b)=tab n (λg=>!b g):=by
 rw[<- rH,wE];exact eD λg _=>by simp
def inT:Nat->Ab Int
 |0=>[]
 |k+1=>(inT k).map (λt=>Builtin.bitOr t (t*2^(2^k)))++[bE (2^k)*2^(2^k)]
theorem gC:∀n,(inT n).length=n
 |0=>rfl
 |n+1=>by simp[inT,gC n]
def Z1T(n:Nat)(b:Nat->Bool):tab n b*2^n=tab (n+n) (λg=>decide (n<=g)&&b (g-n)):=by
 unfold tab;have:((tabN n b:Nat):Int)*2^n=((tabN n b*2^n:Nat):Int):=by simp
 rw[this];congr 1;refine pE ?_ λg hg=>?_
 .rw[Nat.pow_add];exact Nat.mul_lt_mul_of_pos_right (iT n b) (Qbp n)
 .rw[<- Nat.shiftLeft_eq,Nat.testBit_shiftLeft,cZ];by_cases h:n<=g
  .simp[h,show g-n<n by omega]
  .simp[h]
def Z4P(n m:Nat)(b:Nat->Bool):tab n b=tab (n+m) (λg=>decide (g<n)&&b g):=by
 unfold tab;congr 1;refine pE ?_ λg hg=>cZ n b g;exact QaJ (iT n b) (Qa6 (by decide) (by omega))
theorem pU:∀(n i:Nat),i<n->(inT n)[i]?=some (tab (2^n) λg=>decide (g/2^i%2=1))
 |0,i,h=>by omega
 |n+1,i,h=>by
  have b:2^(n+1)=2^n+2^n:=by rw[Nat.pow_succ];omega
  simp only[inT];by_cases hi:i<n
  .rw[QaH (by simp[gC,hi]),QaA,pU n i hi];simp only[Qav];congr 1;rw[Z1T];rw[Z4P (2^n) (2^n),J3,b];refine eD λg hg=>?_;by_cases h1:g<2^n
   .simp[h1,show ¬2^n<=g by omega]
   .have f:2^n<=g:=by omega
    simp only[h1,f,decide_false,decide_true,Bool.false_and,Bool.false_or,Bool.true_and];have j:2^n=2^i*(2*2^(n-i-1)):=by rw[<- Nat.pow_succ',<- Nat.pow_add];congr 1;omega
    have e:g/2^i=(g-2^n)/2^i+2*2^(n-i-1):=by
     have:g=(g-2^n)+2^i*(2*2^(n-i-1)):=by omega
     conv=>lhs;rw[this]
     rw[Nat.add_mul_div_left _ _ (Qbp i)]
    rw[e];congr 2;omega
  .have a:i=n:=by omega
   subst a;rw[QaW (by simp[gC]),Qaa,gC,Nat.sub_self];simp only[Qaz];congr 1;rw[<- rH,Z1T,b];refine eD λg hg=>?_;by_cases h1:2^i<=g
   .have:g/2^i=1:=by
     rw[Nat.div_eq_iff (Qbp i)];omega
    simp[h1,this]
   .have:g/2^i=0:=Nat.div_eq_of_lt (by omega);simp[h1,this]
def Zbw(h:Bt x)(k:Bt y):(decide (x=1)&&decide (y=1))=decide (Builtin.bitAnd x y=1):=by rcases h with z|z<;>rcases k with w|w<;>(subst z;subst w;decide)
def Zce(h:Bt x)(k:Bt y):(decide (x=1)||decide (y=1))=decide (Builtin.bitOr x y=1):=by rcases h with z|z<;>rcases k with w|w<;>(subst z;subst w;decide)
def Zbu(h:Bt x)(k:Bt y):(decide (x=1) ^^ decide (y=1))=decide (Builtin.bitXor x y=1):=by rcases h with z|z<;>rcases k with w|w<;>(subst z;subst w;decide)
def Zbv(h:Bt x):(!decide (x=1))=decide (Builtin.bitXor 1 x=1):=by rcases h with z|z<;>(subst z;decide)
def tb(n:Nat)(b:Nat->Int):Int:=tab n λg=>decide (b g=1)
def lR(h:∀g,g<n->a g=b g):tb n a=tb n b:=eD λg hg=>by rw[h g hg]
def Z0M(n:Nat){b:Int}(h:b=0\/b=1):bE n*b=tb n λ_=>1*b:=by
 rw[Z1V n h];exact eD λg _=>by rw[Qbt]
def Z9o(n:Nat){a b:Nat->Int}(e:∀g,Bt (a g))(f:∀g,Bt (b g)):Builtin.bitAnd (tb n a) (tb n b)=tb n λg=>Builtin.bitAnd (a g) (b g):=by
 unfold tb;rw[Z7i];exact eD λg _=>Zbw (e g) (f g)
def ZaB(n:Nat){a b:Nat->Int}(e:∀g,Bt (a g))(f:∀g,Bt (b g)):Builtin.bitOr (tb n a) (tb n b)=tb n λg=>Builtin.bitOr (a g) (b g):=by
 unfold tb;rw[J3];exact eD λg _=>Zce (e g) (f g)
def Z9m(n:Nat){a b:Nat->Int}(e:∀g,Bt (a g))(f:∀g,Bt (b g)):Builtin.bitXor (tb n a) (tb n b)=tb n λg=>Builtin.bitXor (a g) (b g):=by
 unfold tb;rw[wE];exact eD λg _=>Zbu (e g) (f g)
def Z9n(n:Nat){a:Nat->Int}(b:∀g,Bt (a g)):Builtin.bitXor (bE n) (tb n a)=tb n λg=>Builtin.bitXor 1 (a g):=by
 unfold tb;rw[Z1U];exact eD λg _=>Zbv (b g)
def C7(h:v=tb n b)(a:∀w b,f=.wire w b->b=0\/b=1):cC v w (bE n) f=tb n λg=>cC (b g) w 1 f:=by
 cases f with
 |none=>exact h
 |leg _ _ _=>exact h
 |wire w' b' =>
  unfold cC;by_cases hw:w'=w
  .simp only[hw,Rm];exact Z0M n (a _ _ rfl)
  .simp only[hw,Rn];exact h
def Z7e{V:Ab Int}{B:Nat->Ab Int}(h:∀a∈r.ws,nth V a=tb n λg=>nth (B g) a)(u:∀w l b,f=.leg w l b->b=0\/b=1) :
  ∀j:Nat,j<r.ws.length->nth (legs r w V (bE n) f) j=tb n λg=>nth (legs r w (B g) 1 f) j:=by
 have base:∀j:Nat,j<r.ws.length->nth (r.ws.map (nth V)) j=tb n λg=>nth (r.ws.map (nth (B g))) j:=by
  intro j e;have p:∀L:Ab Int,nth (r.ws.map (nth L)) j=nth L (r.ws[j]):=λL=>iU (i:=j) (by simp[e]) rfl;rw[p V,h _ (List.getElem_mem e)];exact lR λg _=>(p (B g)).symm
 intro j e;cases f with
 |none=>exact base j e
 |wire _ _=>exact base j e
 |leg w' l b =>
  unfold legs;by_cases hw:w'=w
  .simp only[hw,Rm];by_cases o:l.toNat=j
   .have t:∀(L:Ab Int) (x:Int),L.length=r.ws.length->nth (L.set l.toNat x) j=x:=λL x hL=>iU (i:=j) (by rw[o,QaQ (by omega)]) rfl;rw[t _ _ (by simp)];rw[Z0M n (u _ _ _ rfl)];exact lR λg _=>(t _ _ (by simp)).symm
   .have q:∀(L:Ab Int) (x:Int),nth (L.set l.toNat x) j=nth L j:=λL x=>by
     unfold nth;rw[QaO,List.getD,List.getD,Qar o]
    rw[q,base j e];exact lR λg _=>(q _ _).symm
  .simp only[hw,Rn];exact base j e
def Z7f{M:Nat->Ab Int}(i:RowOk k r)(h:∀j:Nat,j<r.ws.length->nth L j=tb n λg=>nth (M g) j)(l:∀g,∀x∈M g,Bt x):iR r L (bE n)=tb n λg=>iR r (M g) 1:=by
 have e:∀j g,Bt (nth (M g) j):=λj g=>mW (l g) j;cases r with
 |fix b=>exact Z0M n i
 |not a =>
  have f:=h 0 (by simp[Row.ws]);show Builtin.bitXor (bE n) (nth L 0)=_;rw[show nth L 0=nth L ((0:Nat):Int) from rfl,f]
  exact Z9n n λg=>e _ g
 |bin k a b =>
  have f:nth L 0=tb n λg=>nth (M g) 0:=h 0 (by simp[Row.ws]);have h1:nth L 1=tb n λg=>nth (M g) 1:=h 1 (by simp[Row.ws]);cases k with
  |and =>
   show Builtin.bitAnd (nth L 0) (nth L 1)=_;rw[f,h1];exact Z9o n (λg=>e _ g) λg=>e _ g
  |or =>
   show Builtin.bitOr (nth L 0) (nth L 1)=_;rw[f,h1];exact ZaB n (λg=>e _ g) λg=>e _ g
  |xor =>
   show Builtin.bitXor (nth L 0) (nth L 1)=_;rw[f,h1];exact Z9m n (λg=>e _ g) λg=>e _ g
def aS(ins:Nat)(rows:Ab Row)(f:Flt):Ab Int:=iZ (bE (2^ins)) f (inT ins) rows
def kT(ins:Nat)(rows:Ab Row)(f:Flt):(aS ins rows f).length=ins+rows.length:=by
 unfold aS;rw[pC,gC]
def Y0{i:Nat}(b:0<=a)(h1:a<i):nth (l.take i) a=nth l a:=by
 unfold nth;rw[List.getD,List.getD,List.getElem?_take_of_lt (by omega)]
def U2{rows:Ab Row}(q:RowsOk ins rows)(h:FltOk ins rows f):∀(i:Nat),i<ins+rows.length->nth (aS ins rows f) i=tb (2^ins) λg=>nth (zP ins rows g f) i:=by
 intro i
 induction i using Nat.strongRecOn with
 |_ i ih =>
  intro hi;by_cases h1:i<ins
  .have j:(aS ins rows f)[i]?=some (cC (tab (2^ins) λg=>decide (g/2^i%2=1)) i (bE (2^ins)) f):=wV (pU ins i h1);rw[iU j rfl];have p:(tab (2^ins) λg=>decide (g/2^i%2=1))=tb (2^ins) λg=>((g:Int)/2^i%2):=by
    refine eD λg _=>?_;have v:((g:Int)/2^i%2)=((g/2^i%2:Nat):Int):=by simp
    have u:(g/2^i%2=1)↔((g:Int)/2^i%2=1):=by rw[v];omega
    exact decide_eq_decide.mpr u
   rw[C7 p h.w];exact lR λg _=>(iU (Z6W h1) rfl).symm
  .obtain⟨k,rfl⟩:∃k,i=ins+k:=⟨i-ins,by omega⟩;have y:k<rows.length:=by omega
   have b:=Qaj y;generalize rows[k]=r at b;have e:=q k r b;have j:=sW (o:=bE (2^ins)) (f:=f) (ss:=inT ins) b;rw[gC]at j;rw[show nth (aS ins rows f) ((ins+k:Nat):Int)=_ from iU j rfl]
   have t:∀g:Nat,nth (zP ins rows g f) ((ins+k:Nat):Int)=_:=λg=>iU (Z4y (g:=g) (f:=f) b) rfl;have p:iR r (legs r ((ins+k:Nat):Int) ((iZ (bE (2^ins)) f (inT ins) rows).take (ins+k)) (bE (2^ins)) f) (bE (2^ins))=tb (2^ins) λg=>iR r (legs r ((ins+k:Nat):Int) ((zP ins rows g f).take (ins+k)) 1 f) 1:=by
    refine Z7f e (Z7e (λa ha=>?_) h.l) λg=>Z2v (λx hx=>Z6X q h x (Qbx hx)) h.l;have A:=e.ws a ha;obtain⟨n,rfl⟩:∃n:Nat,a=(n:Int):=⟨a.toNat,by omega⟩;have:=ih n (by omega) (by omega);rw[Y0 (by omega) (by omega)];show nth (aS ins rows f) _=_;rw[this];exact lR λg _=>(Y0 (by omega) (by omega)).symm
   rw[C7 p h.w];exact lR λg _=>(t g).symm
theorem wY:∀(n:Nat) (b:Nat->Bool),tabN n b+tabN n (λg=>!b g)+1=2^n
 |0,b=>by simp[tabN]
 |n+1,b=>by
  have e:=wY n b;simp only[tabN,Nat.pow_succ];by_cases a:b n=true
  .simp only[a,Bool.not_true,QaZ,Rm,Rn];omega
  .simp only[a,Bool.not_false,QaZ,Rm,Rn];omega
def Z7g(n:Nat)(b:Nat->Bool):bE n-tab n b=tab n (λg=>!b g):=by
 have h:=wY n b;have a:((2^n:Nat):Int)=2^n:=by simp
 unfold bE tab;rw[<- a];omega
def IsT(n:Nat)(x:Int):Prop:=∃b,x=tab n b
def Z8q(h:IsT n x):Builtin.bitXor (bE n) x=bE n-x:=by obtain⟨b,rfl⟩:=h;rw[Z1U,Z7g]
def IsT.or(h:IsT n x)(k:IsT n y):IsT n (Builtin.bitOr x y):=by obtain⟨b,rfl⟩:=h;obtain⟨c,rfl⟩:=k;exact⟨_,J3 n b c⟩
def IsT.xor(h:IsT n x)(k:IsT n y):IsT n (Builtin.bitXor x y):=by obtain⟨b,rfl⟩:=h;obtain⟨c,rfl⟩:=k;exact⟨_,wE n b c⟩
def yR(n:Nat):IsT n 0:=⟨λ_=>false,by unfold tab;rw[pD];rfl⟩
def Z8r(h:b=0\/b=1):IsT n (bE n*b):=⟨_,Z1V n h⟩
def Z8f(l:Ab Int)(a:Int):nth l a=nth l ((a.toNat:Nat):Int):=by unfold nth;rw[QaO]
def nR(e:RowsOk ins rows)(b:FltOk ins rows f)(a:Int):IsT (2^ins) (nth (aS ins rows f) a):=by
 by_cases h:a.toNat<ins+rows.length
 .rw[Z8f,U2 e b _ h];exact⟨_,rfl⟩
 .have:nth (aS ins rows f) a=0:=by
   unfold nth;rw[List.getD,Qay (by rw[kT];omega)];rfl
  rw[this];exact yR _
def wX(h:i<ins):(aS ins rows f)[i]?=some (cC (tab (2^ins) λg=>decide (g/2^i%2=1)) i (bE (2^ins)) f):=wV (pU ins i h)
def uU(h:rows[k]?=some r) :
  (aS ins rows f)[ins+k]?=some (cC (iR r (legs r ((ins+k:Nat):Int) ((aS ins rows f).take (ins+k)) (bE (2^ins)) f) (bE (2^ins))) ((ins+k:Nat):Int) (bE (2^ins)) f):=by
 have:=sW (o:=bE (2^ins)) (f:=f) (ss:=inT ins) h;rw[gC]at this;exact this
def tV(r:Row)(w l:Int)(vs:Ab Int)(o:Int)(f:Flt):Int:=match f with
 | .leg w' l' b=>if w'=w/\l'=l then o*b else nth vs (nth r.ws l)
 |_=>nth vs (nth r.ws l)
def tU(q:l=0/\0<r.ws.length\/l=1/\1<r.ws.length)(t:∀w' l' b,f=.leg w' l' b->w'=w->0<=l'/\l'<r.ws.length):nth (legs r w vs o f) l=tV r w l vs o f:=by
 have e:∀j:Nat,j<r.ws.length->(r.ws.map (nth vs))[j]?=some (nth vs (nth r.ws j)):=λj hj=>by
  rw[QaA,Qaj hj];simp[nth,List.getD,hj]
 have a:nth (r.ws.map (nth vs)) l=nth vs (nth r.ws l):=by
  rcases q with⟨rfl,h⟩|⟨rfl,h⟩
  .exact iU (e 0 h) rfl
  .exact iU (e 1 h) rfl
 cases f with
 |none=>exact a
 |wire _ _=>exact a
 |leg w' l' b =>
  unfold legs tV;by_cases h:w'=w
  .obtain⟨u,l1⟩:=t w' l' b rfl h;simp only[h,Rm,true_and];by_cases n:l'=l
   .subst n;simp only[Rm];refine iU (i:=l'.toNat) ?_ (by omega);rw[QaQ (by rw[Qaa];omega)]
   .simp only[n,Rn];have p:l'.toNat≠l.toNat:=by omega
    rw[<- a];unfold nth;rw[List.getD,List.getD,Qar p]
  .simp only[h,Rn,false_and];exact a
def kdT(k:Kd)(x y:Int):Int:=match k with | .and=>Builtin.bitAnd x y | .or=>Builtin.bitOr x y | .xor=>Builtin.bitXor x y
def Z66(e:∀a,IsT n (nth vs a))(h:∀w l b,f=.leg w l b->b=0\/b=1):IsT n (tV r w l vs (bE n) f):=by
 unfold tV;split
 .split
  .exact Z8r (h _ _ _ rfl)
  .exact e _
 .exact e _
def uT(A B outs:Ab Int):Int:=outs.foldl (λacc a=>Builtin.bitOr acc (Builtin.bitXor (nth A a) (nth B a))) 0
def Z0L{A B outs:Ab Int}{i:Nat}{a:Int}(h:outs[i]?=some a):uT A B (outs.take (i+1))=Builtin.bitOr (uT A B (outs.take i)) (Builtin.bitXor (nth A a) (nth B a)):=by
 unfold uT;rw[cY h,Qbw];rfl
def bH(ins:Nat)(rows:Ab Row)(w:Int):Ab Int:=if w<(ins:Int) then[] else match rows[(w-(ins:Int)).toNat]? with|some r=>r.ws|none=>[]
def mH{ins:Nat}(h:w<(ins:Int)):bH ins rows w=[]:=if_pos h
def mZ{ins:Nat}(h:(ins:Int)<=w)(e:rows[(w-(ins:Int)).toNat]?=some r):bH ins rows w=r.ws:=by
 unfold bH;rw[if_neg (by omega),e]
def kC(f:RowsOk ins rows){w b:Int}(a:b∈bH ins rows w):0<=b/\b<w:=by
 by_cases h:w<(ins:Int)
 .rw[mH h]at a;cases a
 .cases e:rows[(w-(ins:Int)).toNat]? with
  |none=>unfold bH at a;rw[if_neg h,e]at a;cases a
  |some r =>
   rw[mZ (by omega) e]at a;have:=(f _ r e).ws b a;omega
def gR:(bH ins rows w).length<=2:=by
 unfold bH;split
 .simp
 .split
  .rename_i r _;cases r<;>simp[Row.ws]
  .simp
def nX(ks:Ab Int)(k:Int):Ab Int:=if k∈ks then ks else ks++[k]
def Z63:a∈nX ks k↔a∈ks\/a=k:=by
 unfold nX;split
 .rename_i h;exact⟨.inl,λz=>z.elim id λz=>z ▸ h⟩
 .simp
def Z1b(h:ks.Nodup)(e:k∉ks):(ks++[k]).Nodup:=by
 refine Qau.mpr ⟨h,by simp,λa ha b hb z=>?_⟩;have:b=k:=by simpa using hb
 subst this;subst z;exact e ha
def Z1c(h:ks.Nodup):(nX ks k).Nodup:=by
 unfold nX;split
 .exact h
 .rename_i a;exact Z1b h a
def fG(ks xs:Ab Int):Ab Int:=xs.foldl nX ks
theorem mem_addAll:∀{xs ks:Ab Int}{a:Int},a∈fG ks xs↔a∈ks\/a∈xs
 |[],ks,a=>by simp[fG]
 |x::xs,ks,a=>by
  have b:=mem_addAll (xs:=xs) (ks:=nX ks x) (a:=a);unfold fG at b ⊢;rw[Qbs,b,Z63,Qad,or_assoc]
theorem mX:∀{xs ks:Ab Int},ks.Nodup->(fG ks xs).Nodup
 |[],ks,h=>h
 |x::xs,ks,h=>by
  have a:=mX (xs:=xs) (ks:=nX ks x) (Z1c h);exact a
def vQ{xs ks:Ab Int}(h:xs[i]?=some a):fG ks (xs.take (i+1))=nX (fG ks (xs.take i)) a:=by
 unfold fG;rw[cY h,Qbw];rfl
theorem oE:∀(N:Nat) (l:Ab Int),l.Nodup->(∀a∈l,0<=a/\a<(N:Int))->l.length<=N
 |0,[],_,_=>Qan _
 |0,a::l,_,h=>by have:=h a Qah;omega
 |N+1,l,nd,h=>by
  have b:=oE N (l.erase (N:Int)) (nd.erase _) (λa ha=>by
   have h1:=(nd.mem_erase_iff).mp ha;have:=h a h1.2;have e:a≠(N:Int):=h1.1;omega)
  rw[List.length_erase]at b;split at b<;>omega
structure NeedL(ins:Nat)(rows:List Row)(outs L:List Int):Prop where
 nd:L.Nodup
 out:∀a∈outs,a∈L
 cl:∀a∈L,∀b∈bH ins rows a,b∈L
 least:∀S:Int->Prop,(∀a∈outs,S a)->(∀a,S a->∀b∈bH ins rows a,S b)->∀a∈L,S a
abbrev Ho(ins:Nat)(rows:Ab Row)(outs:Ab Int):Prop:=∀a∈outs,0<=a/\a<((ins+rows.length:Nat):Int)
def NeedL.bound(h:NeedL ins rows outs L)(f:RowsOk ins rows)(e:Ho ins rows outs):∀a∈L,0<=a/\a<((ins+rows.length:Nat):Int) :=
 h.least _ e λa ha b hb=>by have:=kC f hb;omega
def NeedL.len(h:NeedL ins rows outs L)(b:RowsOk ins rows)(a:Ho ins rows outs):L.length<=ins+rows.length:=oE _ _ h.nd (h.bound b a)
def gD(ins:Nat)(rows:Ab Row)(outs:Ab Int):Nat->Ab Int
 |0=>fG [] outs
 |j+1=>if (((ins+rows.length:Nat):Int)-1-(j:Int))∈gD ins rows outs j then fG (gD ins rows outs j) (bH ins rows (((ins+rows.length:Nat):Int)-1-(j:Int))) else gD ins rows outs j
structure ZbD(ins:Nat)(rows:List Row)(outs:List Int)(j:Nat)(L:List Int):Prop where
 nd:L.Nodup
 out:∀a∈outs,a∈L
 cl:∀a∈L,((ins+rows.length:Nat):Int)-(j:Int)<=a->∀b∈bH ins rows a,b∈L
 least:∀S:Int->Prop,(∀a∈outs,S a)->(∀a,S a->∀b∈bH ins rows a,S b)->∀a∈L,S a
theorem Z2s(i:RowsOk ins rows)(l:Ho ins rows outs):∀j,ZbD ins rows outs j (gD ins rows outs j)
 |0=>by
  refine⟨mX QaF,λa ha=>mem_addAll.mpr (.inr ha),λa ha h=>?_,λS h1 _ a ha=>?_⟩
  .have:=l a ((mem_addAll.mp ha).elim (λz=>(by cases z)) id);omega
  .exact h1 a ((mem_addAll.mp ha).elim (λz=>(by cases z)) id)
 |j+1=>by
  have e:=Z2s i l j;unfold gD;by_cases hw:(((ins+rows.length:Nat):Int)-1-(j:Int))∈gD ins rows outs j
  .rw[if_pos hw];generalize hW:((ins+rows.length:Nat):Int)-1-(j:Int)=W at *
   refine⟨mX e.nd,λa ha=>mem_addAll.mpr (.inl (e.out a ha)),λa ha h b hb=>?_,λS h1 h2 a ha=>?_⟩
   .rcases mem_addAll.mp ha with z|z
    .by_cases f:a=W
     .subst f;exact mem_addAll.mpr (.inr hb)
     .exact mem_addAll.mpr (.inl (e.cl a z (by omega) b hb))
    .have:=kC i z;omega
   .rcases mem_addAll.mp ha with z|z
    .exact e.least S h1 h2 a z
    .exact h2 W (e.least S h1 h2 W hw) a z
  .rw[if_neg hw];refine⟨e.nd,e.out,λa ha h b hb=>?_,e.least⟩;by_cases f:a=((ins+rows.length:Nat):Int)-1-(j:Int)
   .rw[f]at ha;exact absurd ha hw
   .exact e.cl a ha (by omega) b hb
def rS(f:RowsOk ins rows)(e:Ho ins rows outs):NeedL ins rows outs (gD ins rows outs rows.length):=by
 have h:=Z2s f e rows.length;refine⟨h.nd,h.out,λa ha b hb=>?_,h.least⟩;by_cases hi:a<(ins:Int)
 .rw[mH hi]at hb;cases hb
 .exact h.cl a ha (by omega) b hb
def oH(ins:Nat)(rows:Ab Row)(outs:Ab Int):Ab Int:=zT (gD ins rows outs rows.length)
def mem_needV:a∈oH ins rows outs↔a∈gD ins rows outs rows.length:=(lU _).mem_iff
def oG(e:RowsOk ins rows)(b:Ho ins rows outs):∀a∈oH ins rows outs,0<=a/\a<((ins+rows.length:Nat):Int) :=
 λa ha=>(rS e b).bound e b a (mem_needV.mp ha)
def E7(b:RowsOk ins rows)(a:Ho ins rows outs):(oH ins rows outs).length<=ins+rows.length:=by
 have:=(lU (gD ins rows outs rows.length)).length_eq;unfold oH;rw[this];exact(rS b a).len b a
def dC(ins:Nat)(rows:Ab Row)(w:Int):Ab Int:=if w<(ins:Int) then[0,1] else match rows[(w-(ins:Int)).toNat]? with|some (.fix b)=>[1-b]|_=>[0,1]
def gW:(dC ins rows w).length<=2:=by
 unfold dC;split
 .simp
 .split<;>simp
def pX(f:RowsOk ins rows){w b:Int}(a:b∈dC ins rows w):b=0\/b=1:=by
 unfold dC at a;split at a
 .simpa using a
 .split at a
  .rename_i c e;have:=f _ _ e;have h:b=1-c:=by simpa using a
   rcases (show c=0\/c=1 from this)with z|z<;>omega
  .simpa using a
def cJ(ins:Nat)(rows:Ab Row)(w:Int)(k:Nat):Ab Int->Ab Flt
 |[]=>[]
 |a::r=>(dC ins rows a).map (λb=>Flt.leg w (k:Int) b)++cJ ins rows w (k+1) r
def cS(ins:Nat)(rows:Ab Row)(w:Int):Ab Flt:=(dC ins rows w).map (λb=>Flt.wire w b)++cJ ins rows w 0 (bH ins rows w)
def bT(ins:Nat)(rows:Ab Row)(outs:Ab Int):Ab Flt:=(oH ins rows outs).flatMap (cS ins rows)
theorem oM:∀(l:Ab Int) (k:Nat) (a:Int),cJ ins rows w k (l++[a])=cJ ins rows w k l++(dC ins rows a).map (λb=>Flt.leg w ((k+l.length:Nat):Int) b)
 |[],k,a=>by simp[cJ]
 |x::l,k,a=>by
  simp only[Qa5,cJ];rw[oM l (k+1) a,Qa1,Qaf,show k+1+l.length=k+(l.length+1) by omega]
theorem iW:∀(l:Ab Int) (k:Nat),(cJ ins rows w k l).length<=2*l.length
 |[],k=>by simp[cJ]
 |x::l,k=>by
  have h1:=iW (ins:=ins) (rows:=rows) (w:=w) l (k+1);have a:=gW (ins:=ins) (rows:=rows) (w:=x);simp only[cJ,Qam,Qaa,Qaf];omega
def wU:(cS ins rows w).length<=6:=by
 have h1:=iW (ins:=ins) (rows:=rows) (w:=w) (bH ins rows w) 0;have a:=gW (ins:=ins) (rows:=rows) (w:=w);have b:=gR (ins:=ins) (rows:=rows) (w:=w);unfold cS;rw[Qam,Qaa];omega
theorem sD:∀(l:Ab Int),(l.flatMap (cS ins rows)).length<=6*l.length
 |[]=>by simp
 |a::l=>by
  have h1:=sD (ins:=ins) (rows:=rows) l;have b:=wU (ins:=ins) (rows:=rows) (w:=a);rw[List.flatMap_cons,Qam,Qaf];omega
def fY(b:RowsOk ins rows)(a:Ho ins rows outs):(bT ins rows outs).length<=6*(ins+rows.length):=by
 have h1:=sD (ins:=ins) (rows:=rows) (oH ins rows outs);have e:=E7 b a;unfold bT;omega
theorem lF:∀{l:Ab Int}{k:Nat},f∈cJ ins rows w k l->∃j a b,l[j]?=some a/\b∈dC ins rows a/\f=.leg w ((k+j:Nat):Int) b
 |[],k,h=>by cases h
 |x::l,k,h=>by
  simp only[cJ]at h;rcases Qai.mp h with z|z
  .obtain⟨b,i,rfl⟩:=QaG.mp z;exact⟨0,x,b,rfl,i,rfl⟩
  .obtain⟨j,a,b,h1,e,n⟩:=lF z;exact⟨j+1,a,b,by simpa using h1,e,by rw[n];congr 2;omega⟩
def qW{ins:Nat}(h:RowsOk ins rows):∀f∈bT ins rows outs,FltOk ins rows f/\f ≠ .none:=by
 intro f n;obtain⟨w,_,hw⟩:=List.mem_flatMap.mp n;unfold cS at hw;rcases Qai.mp hw with z|z
 .obtain⟨b,p,rfl⟩:=QaG.mp z;have h1:=pX h p;exact⟨⟨λw b e=>(by cases e;exact h1),λw l b e=>(by cases e),λw l b k r e=>(by cases e)⟩,λz=>(by cases z)⟩
 .obtain⟨j,a,b,h1,o,rfl⟩:=lF z;have q:=pX h o;refine⟨⟨λw b e=>(by cases e),λw l b e=>(by cases e;exact q),λw' l' b' k r e er ew=>?_⟩,λz=>(by cases z)⟩;cases e;have i:bH ins rows w=r.ws:=mZ (by omega) (by rw[ew,show(((ins+k:Nat):Int)-(ins:Int)).toNat=k by omega];exact er);rw[i]at h1;have:=(Qae.mp h1).1;omega
def dKT(ks:Ab Int):D:=.dk (ks.map Sum.inl) (ks.map λ_=>.bl true)
def inl_mem{ks:Ab Int}:(Sum.inl k:Key)∈ks.map Sum.inl↔k∈ks:=by
 constructor
 .intro h;obtain⟨a,b,e⟩:=QaG.mp h;cases e;exact b
 .intro h;exact QaG.mpr ⟨k,h,rfl⟩
def Y8{ks:Ab Int}:N6 (Sum.inl k:Key) (ks.map Sum.inl)=decide (k∈ks):=by
 by_cases h:k∈ks
 .rw[memK_iff.mpr (inl_mem.mpr h),Rk h]
 .rw[Rj h,Bool.eq_false_iff];exact λz=>h (inl_mem.mp (memK_iff.mp z))
def Z5B:Z14 (ks.map Sum.inl) (Sum.inl k:Key)=(nX ks k).map Sum.inl:=by
 unfold Z14 nX;by_cases h:k∈ks
 .rw[if_pos (inl_mem.mpr h),if_pos h]
 .rw[if_neg (λz=>h (inl_mem.mp z)),if_neg h,Qaw];rfl
theorem rC:∀(ks:Ab Int),List.zipWith (λ(b:Key) (y:D)=>if b=(Sum.inl k:Key) then D.bl true else y) (ks.map Sum.inl) (ks.map λ_=>D.bl true)=ks.map λ_=>D.bl true
 |[]=>rfl
 |a::ks=>by simp only[Qak,List.zipWith_cons_cons,rC ks];split<;>rfl
def Z3J:yA (ks.map Sum.inl) (ks.map λ_=>D.bl true) (Sum.inl k:Key) (.bl true)=(nX ks k).map λ_=>D.bl true:=by
 unfold yA nX;by_cases h:k∈ks
 .rw[if_pos (inl_mem.mpr h),if_pos h];exact rC ks
 .rw[if_neg (λz=>h (inl_mem.mp z)),if_neg h,Qaw];rfl
def Z1w(ks:Ab Int):flats (ks.map λ_=>D.bl true)=true:=mK λd hd=>by
 obtain⟨_,_,rfl⟩:=QaG.mp hd;rfl
def xU(a:fv env=some (.bl true))(hi:env[i]?=some (some (true,dKT ks)))(e:fk env=some (.int k))(b:ks.length<1000) :
  xV i fk fv env=.next (env.set i (some (true,dKT (nX ks k)))):=by
 unfold xV dKT at *
 rw[a,hi,e];simp only[keyOf,Z1w,PD.flat,Qaa,b,and_self,Rm,Z5B,Z3J]
theorem Z9:∀(ks:Ab Int),inD (.int k) (ks.map D.int)=some (decide (k∈ks))
 |[]=>rfl
 |a::ks=>by
  simp only[Qak,inD,eqN_int,Z9 ks];by_cases h:a=k
  .subst h;simp
  .have h':¬k=a:=λz=>h z.symm;simp[h,h']
def Z8:inF (.int k) (LI ks)=some (decide (k∈ks)):=Z9 ks
def W8(hs:src env=some ds)(I:Nat->En->Prop)(j:I 0 (fz rs env))
  (st:∀i d env,ds[i]?=some d->I i env->∃env1 env2,t d env=some env1/\g env1=.next env2/\I (i+1) env2):∃f,eQ rs src t g env=.next f/\I ds.length f:=by
 obtain⟨f,h1,h⟩:=Z47 I (λi d e hd hI=>let ⟨e1,e2,a,b,c⟩:=st i d e hd hI;⟨e1,e2,a,.inl b,c⟩) j;exact⟨f,Z3C hs h1,h⟩
theorem rB:∀{xs ks:Ab Int},(fG ks xs).length<=ks.length+xs.length
 |[],ks=>by simp[fG]
 |x::xs,ks=>by
  have a:=rB (xs:=xs) (ks:=nX ks x);have h:(nX ks x).length<=ks.length+1:=by unfold nX;split<;>simp
  have e:fG ks (x::xs)=fG (nX ks x) xs:=rfl;rw[e,Qaf];omega
def E8(f:RowsOk ins rows)(e:Ho ins rows outs)(j:Nat):(gD ins rows outs j).length<=ins+rows.length :=
 oE _ _ (Z2s f e j).nd ((Z2s f e j).least _ e λa ha b hb=>by have:=kC f hb;omega)
def Z48{l:Ab Int}(h:l[i]?=some w):(l.take (i+1)).flatMap (cS ins rows)=(l.take i).flatMap (cS ins rows)++cS ins rows w:=by
 rw[cY h,List.flatMap_append];simp
def oK{l:Ab Int}(h:l[i]?=some a):cJ ins rows w 0 (l.take (i+1))=cJ ins rows w 0 (l.take i)++(dC ins rows a).map (λb=>Flt.leg w (i:Int) b):=by
 have hi:i<l.length:=(Qae.mp h).1;rw[cY h,oM,Qat,Qa7,Nat.min_eq_left (by omega)]
def oZ{rows:Ab Row}{k:Nat}(h:rows[k]?=some r){a:Int}(e:a=(k:Int)):atI (rows.map Row.d) a=some r.d:=by
 subst e;exact gM (by simp[h])
def nD(h:env[i]?=some (some (true,d)))(a:iS r env=some ds):iS (.inl i::r) env=some (d::ds):=by unfold iS;rw[h,a]
def qX(h:f env=some d)(a:iS r env=some ds):iS (.inr f::r) env=some (d::ds):=by unfold iS;rw[h,a]
def W6(h:iS is env=some ds)(a:ds.length<=1000):D8 is env=.ret (.tup ds):=by unfold D8;rw[h];simp only[a,Rm]
def qF(f:Flt)(w:Int):Bool:=match f with | .wire w' _=>decide (w'=w)|_=>false
def aX(ins:Nat)(rows:Ab Row)(outs:Ab Int):D:=.tup [.int ins,.lst (rows.map Row.d),LI outs,LI (inT ins)]
def Zc1(h:(b-a).toNat=n)(e:0<=a)(h1:a<=1000)(f:0<=b)(i:b<=1000):Z0A [.int a,.int b]=some ((List.range n).map λ(k:Nat)=>.int (a+(k:Int))):=by
 simp only[Z0A];rw[if_pos ⟨by omega,by omega,by omega,by omega⟩,h]
def Z1D(e:0<j)(h1:j<65536):fS i j:=by
 refine⟨e,?_⟩;have:j.natAbs.log2<=j.natAbs:=Nat.log2_le_self _;by_cases a:j.natAbs=0
 .rw[a];decide
 .have b:j.natAbs<2^16:=by omega
  have:=(Nat.log2_lt a).mpr b;omega
def Z2r(h:(l.length:Int)<=a):nth l a=0:=by
 unfold nth;rw[List.getD,Qay (by omega)];rfl
def Z8e{l:Ab Int}{j:Nat}{x:Int}(P:Int->Prop)(h:∀a∈l,P a)(b:P x):∀a∈l.set j x,P a:=λa ha=>(Qbz ha).elim (h a) λz=>z ▸ b
def fT(ins:Nat)(rows:Ab Row)(outs:Ab Int):Nat->Ab Int
 |0=>outs
 |j+1=>if (((ins+rows.length:Nat):Int)-1-(j:Int))∈fT ins rows outs j then fT ins rows outs j++bH ins rows (((ins+rows.length:Nat):Int)-1-(j:Int)) else fT ins rows outs j
structure Zbz(ins:Nat)(rows:List Row)(outs:List Int)(j:Nat)(L:List Int):Prop where
 out:∀a∈outs,a∈L
 cl:∀a∈L,((ins+rows.length:Nat):Int)-(j:Int)<=a->∀b∈bH ins rows a,b∈L
 least:∀S:Int->Prop,(∀a∈outs,S a)->(∀a,S a->∀b∈bH ins rows a,S b)->∀a∈L,S a
theorem Z8P(i:RowsOk ins rows)(l:Ho ins rows outs):∀j,Zbz ins rows outs j (fT ins rows outs j)
 |0=>by
  refine⟨λa ha=>ha,λa ha h=>?_,λS h1 _ a ha=>h1 a ha⟩;have:=l a ha;omega
 |j+1=>by
  have e:=Z8P i l j;unfold fT;by_cases hw:(((ins+rows.length:Nat):Int)-1-(j:Int))∈fT ins rows outs j
  .rw[if_pos hw];generalize hW:((ins+rows.length:Nat):Int)-1-(j:Int)=W at *
   refine⟨λa ha=>Qaq _ (e.out a ha),λa ha h b hb=>?_,λS h1 h2 a ha=>?_⟩
   .rcases Qai.mp ha with z|z
    .by_cases f:a=W
     .subst f;exact Qag _ hb
     .exact Qaq _ (e.cl a z (by omega) b hb)
    .have:=kC i z;omega
   .rcases Qai.mp ha with z|z
    .exact e.least S h1 h2 a z
    .exact h2 W (e.least S h1 h2 W hw) a z
  .rw[if_neg hw];refine⟨e.out,λa ha h b hb=>?_,e.least⟩;by_cases f:a=((ins+rows.length:Nat):Int)-1-(j:Int)
   .rw[f]at ha;exact absurd ha hw
   .exact e.cl a ha (by omega) b hb
theorem sU:∀j,(fT ins rows outs j).length<=outs.length+2*j
 |0=>by simp[fT]
 |j+1=>by
  have b:=sU (ins:=ins) (rows:=rows) (outs:=outs) j;have a:=gR (ins:=ins) (rows:=rows) (w:=((ins+rows.length:Nat):Int)-1-(j:Int));unfold fT;split
  .rw[Qam];omega
  .omega
def Z32(e:RowsOk ins rows)(f:Ho ins rows outs){a:Int}:a∈fT ins rows outs (ins+rows.length)↔a∈oH ins rows outs:=by
 have h:=Z8P e f (ins+rows.length);have k:=rS e f;rw[mem_needV];constructor
 .exact h.least _ k.out k.cl a
 .refine k.least _ h.out (λc hc b hb=>?_) a;by_cases hi:c<(ins:Int)
  .rw[mH hi]at hb;cases hb
  .exact h.cl c hc (by omega) b hb
def gP(n:Nat):Ab Int:=(List.range n).map λ(k:Nat)=>(k:Int)
def rangeI_mem:a∈gP n↔0<=a/\a<(n:Int):=by
 unfold gP;constructor
 .intro h;obtain⟨k,b,rfl⟩:=QaG.mp h;have:=Qbn.mp b;omega
 .intro⟨h1,h2⟩;exact QaG.mpr ⟨a.toNat,Qbn.mpr (by omega),by omega⟩
def A4(n:Nat):(gP n).Pairwise (· < ·):=by
 unfold gP;rw[List.pairwise_map];refine List.Pairwise.imp (λh=>?_) List.pairwise_lt_range;omega
def Z1d(b:RowsOk ins rows)(e:Ho ins rows outs) :
  (gP (ins+rows.length)).filter (λa=>decide (a∈fT ins rows outs (ins+rows.length)))=oH ins rows outs:=by
 have s1:((gP (ins+rows.length)).filter (λa=>decide (a∈fT ins rows outs (ins+rows.length)))).Pairwise (· < ·):=(A4 _).filter _;have f:((gP (ins+rows.length)).filter (λa=>decide (a∈fT ins rows outs (ins+rows.length)))).Nodup:=s1.imp λh=>by omega
 have i:(oH ins rows outs).Nodup:=(lU _).nodup_iff.mpr (rS b e).nd;refine kH ((List.perm_ext_iff_of_nodup f i).mpr λa=>?_) (s1.imp λh=>by omega) (nU _);rw[QbF,Rl,Z32 b e,rangeI_mem];exact⟨λh=>h.2,λh=>⟨oG b e a h,h⟩⟩
def rG:tab n b=0↔∀g,g<n->b g=false:=by
 constructor
 .intro h g a;have h1:=cZ n b g;have e:tabN n b=0:=by unfold tab at h;omega
  rw[e]at h1;simpa[a]using h1.symm
 .intro h;rw[show tab n b=tab n (λ_=>false) from eD λg a=>h g a]
  unfold tab;rw[pD];rfl
def Z7h:tab n a=tab n b↔∀g,g<n->a g=b g:=by
 constructor
 .intro h g e;have h1:=cZ n a g;have f:=cZ n b g;have i:tabN n a=tabN n b:=by unfold tab at h;omega
  rw[i,f]at h1;simpa[e]using h1.symm
 .exact eD
def Z87(f:IsT n x)(e:IsT n y):Builtin.bitOr x y=0↔x=0/\y=0:=by
 obtain⟨a,rfl⟩:=f;obtain⟨b,rfl⟩:=e;rw[J3,rG,rG,rG];constructor
 .intro h;exact⟨λg hg=>by have:=h g hg;simp at this;exact this.1,λg hg=>by have:=h g hg;simp at this;exact this.2⟩
 .intro⟨h1,h2⟩ g hg;simp[h1 g hg,h2 g hg]
def Z4I(f:IsT n x)(i:IsT n y):Builtin.bitXor x y=0↔x=y:=by
 obtain⟨a,rfl⟩:=f;obtain⟨b,rfl⟩:=i;rw[wE,rG,Z7h];constructor
 .intro h g e;have:=h g e;cases j:a g<;>cases l:b g<;>simp_all
 .intro h g e;rw[h g e];simp
theorem F9(b:∀a,IsT n (nth A a))(e:∀a,IsT n (nth B a)):∀(outs:Ab Int) (x:Int),IsT n x->(outs.foldl (λacc a=>Builtin.bitOr acc (Builtin.bitXor (nth A a) (nth B a))) x=0↔x=0/\∀a∈outs,nth A a=nth B a)
 |[],x,h=>by simp
 |a::outs,x,h=>by
  rw[Qbs,F9 b e outs _ (h.or ((b a).xor (e a))),Z87 h ((b a).xor (e a)),Z4I (b a) (e a)];simp only[Qad,forall_eq_or_imp,and_assoc]
def Z0K(b:∀a,IsT n (nth A a))(e:∀a,IsT n (nth B a))(outs:Ab Int):uT A B outs=0↔outs.map (nth B)=outs.map (nth A):=by
 unfold uT;rw[F9 b e outs 0 (yR n)];constructor
 .intro⟨_,h⟩;exact Qbh λa ha=>(h a ha).symm
 .intro h;refine⟨rfl,λa ha=>?_⟩;have:=List.map_inj_left.mp h a ha;exact this.symm
theorem Z0g(n:Nat):∀(xs ys:Ab Int),xs.length=ys.length->eqL (eqN (n+1)) (xs.map D.int) (ys.map D.int)=some (decide (xs=ys))
 |[],[],_=>by simp[eqL_nil]
 |[],_::_,h=>by cases h
 |_::_,[],h=>by cases h
 |x::xs,y::ys,h=>by
  have b:=Z0g n xs ys (by simpa using h);simp only[Qak,eqL_cons,eqN_int,b];by_cases h1:x=y
  .by_cases a:xs=ys
   .simp[h1,a]
   .simp[h1,a]
  .simp[h1]
def Zap(h:xs.length=ys.length):eqN (n+2) (LI xs) (LI ys)=some (decide (xs=ys)):=by
 unfold LI;rw[sI,if_pos (by simpa using h)];exact Z0g n xs ys h
theorem wS(a b:α->D):∀(xs:Ab α),nO (xs.map a) (xs.map b)=xs.map λx=>.tup [a x,b x]
 |[]=>rfl
 |x::xs=>by simp only[Qak,nO];rw[wS a b xs]
end G
namespace PD
open PySem PySem.Spec PyProof.Rows L2
open Classical in
def xQ{K:Frag}{H:Hp}{ds:Ab D}{vs:Ab V}{fp:Ab Af}(h:Reps K m H ds vs fp):Reps K false H ds vs fp:=by
 cases m
 .exact h
 .exact Reps.weak _ _ _ h
def Z0d(fa:En->Aa D)(fl fh:En->Aa (Aa Int)):En->Aa D:=λenv=>match fa env,fl env,fh env with
 |some (.lst ds),some l,some h=>some (.lst (cutD ds l h))
 |_,_,_=>none
def Z5r{lo hi:Aa Ag}{fl fh:En->Aa (Aa Int)}{p2:Pos}(n:QE X m1 rs a fa)(o:QO X lo fl)(r:QO X hi fh):QE X false rs (.Subscript a (.Slice lo hi none p2) pos) (Z0d fa fl fh) :=
 .mk (L2.pe_slice (SlR.or Z1Y Z0Q) n o r) λσ H Q ⟨env,F,d,ok,e,q⟩=>by
  unfold Z0d at e;split at e
  .rename_i ds l h h1 t x;cases e;refine⟨env,F,_,ok,h1,λv H1 f1 s1 r1 c1=>⟨env,F,l,ok.same s1,t,λH2 s2=>⟨env,F,h,ok.same (s1.trans s2),x,λH3 s3=>.inl ?_⟩⟩⟩;obtain⟨p,vs,fp',rfl,i,w,f⟩:=cA (r1.same (s2.trans s3));refine⟨p,vs,rfl,i,λp' hp=>?_⟩;obtain⟨f',j,u⟩:=Reps.cut (xQ w) l h;exact q _ _ (p'::f') (((s1.trans s2).trans s3).trans (bU hp)) (iO hp j) (iC ((s1.trans s2).trans s3) hp j ⟨λb hb=>c1.1 b (f b (u b hb)),λz=>(by cases z)⟩)
  .cases e
def Z0e(fa fb:En->Aa D):En->Aa D:=λenv=>match fa env,fb env with
 |some (.lst xs),some (.lst ys)=>if xs.length+ys.length<=1000 then some (.lst (xs++ys)) else none
 |_,_=>none
def Z7W(w:QE X m1 rs a fa)(l:QE X m2 rs b fb):QE X false rs (.BinOp a .Add b pos) (Z0e fa fb) :=
 .mk (L2.pe_op Z2o w l) λσ H Q ⟨env,F,d,ok,e,q⟩=>by
  unfold Z0e at e;split at e
  .rename_i xs ys h1 A;split at e
   .rename_i y;cases e;refine two ok h1 A λv u H' f1 f2 s r1 r2 c1 c2=>?_;obtain⟨p,vs,fp',rfl,r,t,i⟩:=cA r1;obtain⟨x,us,n,rfl,j,h,f⟩:=cA r2;have o:=(xQ t).append (xQ h);refine⟨p,x,vs,us,rfl,rfl,r,j,jT (by rw[t.length,h.length];exact y),λp2 hp=>?_⟩;exact q _ _ (p2::(fp'++n)) (s.trans (bU hp)) (iO hp o) (iC s hp o ⟨λb l=>(Qai.mp l).elim (λz=>c1.1 b (i b z)) (λz=>c2.1 b (f b z)),λz=>(by cases z)⟩)
   .cases e
  .cases e
mutual
theorem Rep.keepF{K:Frag}{st:Bool}{H H':Hp}(ht:∀a xs,SqT K H a xs->SqT K H' a xs):∀(d:D) (v:V) (fp:Ab Af),flat d=true->Rep K st H d v fp->Rep K st H' d v fp
 | .non,v,fp,_,h=>by simpa only [Rep]using h
 | .bl _,v,fp,_,h=>by simpa only [Rep]using h
 | .int _,v,fp,_,h=>by simpa only [Rep]using h
 | .str _,v,fp,_,h=>by simpa only [Rep]using h
 | .tup ds,v,fp,f,h=>by
  simp only[Rep]at h ⊢;obtain⟨a,vs,e,hs,hr⟩:=h;exact⟨a,vs,e,ht _ _ hs,Reps.keepF ht ds vs fp (by simpa only [PD.flat]using f) hr⟩
 | .lst _,v,fp,f,h=>by simp only[PD.flat]at f;cases f
 | .obj _ _ _,v,fp,f,h=>by simp only[PD.flat]at f;cases f
 | .dk _ _,v,fp,f,h=>by simp only[PD.flat]at f;cases f
 | .dt _ _,v,fp,f,h=>by simp only[PD.flat]at f;cases f
 | .exc _,v,fp,f,h=>by simp only[PD.flat]at f;cases f
 | .fn _ _ _,v,fp,f,h=>by simp only[PD.flat]at f;cases f
theorem Reps.keepF{K:Frag}{st:Bool}{H H':Hp}(ht:∀a xs,SqT K H a xs->SqT K H' a xs):∀(ds:Ab D) (vs:Ab V) (fp:Ab Af),flats ds=true->Reps K st H ds vs fp->Reps K st H' ds vs fp
 |[],vs,fp,_,h=>by simpa only [Reps]using h
 |d::ds,vs,fp,f,h=>by
  simp only[Reps]at h ⊢;simp only[flats,QaE]at f;obtain⟨v,r,f1,f2,e1,e2,h1,h2⟩:=h;exact⟨v,r,f1,f2,e1,e2,Rep.keepF ht d v f1 f.1 h1,Reps.keepF ht ds r f2 f.2 h2⟩
end
section
variable {X:Cx}{m m1:Bool}{rs rs1:Ab Nat}{a:Ag}{fa:En->Aa D}{pos:Pos}
def Z4g:CallR X (.type "str") (λxs H Q=>(∃i:Int,xs=[.int i]/\i.natAbs.log2<1920/\Q (.str (toString i)) H)\/∃x,xs=[.str x]/\Q (.str x) H):=by
 intro pins s σ H xs us Q I r h;rcases h with h|⟨x,rfl,q⟩
 .exact sL pins s σ H xs us Q I r h
 .obtain⟨u,rfl,t,rfl⟩:=nQ r;exact PySem.P.str_of_str ⟨.str x,H,I,⟨_,rfl⟩,q⟩
def sT:Ab D->Aa D
 |[.int i]=>if i.natAbs.log2<1920 then some (.str (toString i)) else none
 |[.str x]=>some (.str x)
 |_=>none
def M3{p:Pos}(j:Gl X "str")(h:X.mg "str" = none)(l:QE X m1 rs1 a fa)(he:starEach [a] X.env=(false,eval a X.env)::starEach [] X.env:=by rfl)(hpl:(backTo pos (starEach [] X.env)).any (·.1)=false:=by rfl) :
  QE X m rs (.Call (.Name "str" p) [a] [] pos) (λenv=>(aC fa aH env).bind sT) :=
 kA Z4g j h Z0o (aB l aW he) (λds d vs H fp Q e r q=>by
  unfold sT at e;split at e
  .split at e
   .rename_i i hi;cases e;obtain⟨v,rfl,f⟩:=gY r;rw[bP f];exact .inl ⟨i,rfl,hi,q _ _ [] (Same.refl H) lE (λb hb=>(by cases hb)) QaF⟩
   .cases e
  .cases e;obtain⟨v,rfl,f⟩:=gY r;rw[dD f];exact .inr ⟨_,rfl,q _ _ [] (Same.refl H) lE (λb hb=>(by cases hb)) QaF⟩
  .cases e) (he:=he) (hpl:=hpl)
end
end PD
namespace L2
open PySem PySem.Spec PyProof.Rows
def Z9g(H:Hp)(P:Af)(pq:Pos×Str):Prop:=∃ps:Ae (Pos×Str),H P=some (.tbl ps)/\ps[0]?=some pq
structure Zcj(q:Str)(params:Arguments)(body:Expr)(scope:Scope)(ns:List Str)(a:Addr)(dvs:List V)(s:Shared)(H:Hp)(fs:List Addr)(cl:List (Str×Addr))(pm:Value)(c':Addr)(ctv:Value)(oc:Obj):Prop where
 fn:s.heap.get? a=some (PySem.W.kla_obj "<lambda>" q params body scope cl pm c' ctv)
 free:H a=none
 nfs:a∉fs
 code:H c'=some (.frz oc (.cod q))
 inj:∀x y c,cl.lookup x=some c->cl.lookup y=some c->x=y
 has:∀x,(x,NameKind.free)∈scope.names->∃c,cl.lookup x=some c
 cell:∀x c,cl.lookup x=some c->(∃v,s.heap.IsCell c v)/\H c=none/\c∉fs
 len:dvs.length=ns.length
 vals:∀(i:Nat) n dv,ns[i]?=some n->dvs[i]?=some dv->∃c u,cl.lookup n=some c/\s.heap.IsCell c (some u)/\RelV dv u
end L2
namespace PD
open PySem PySem.Spec PyProof.Rows L2
def St(q:Str)(params:Arguments)(body:Ag)(scope:Scope)(ns:Ab Str)(a:Af)(dvs:Ab V)(s:Ac)(H:Hp)(fs:Ab Af):Prop:=∃cl pm c' ctv oc,Zcj q params body scope ns a dvs s H fs cl pm c' ctv oc
structure ZbE(P:Program)(w:World)(K:Frag)(mg:Str->Option Value)(base:Heap)(k:Nat)(f:Addr)(fd:FuncData)(ps:List Str)(n:Nat)(S:Addr->List V->Shared->Hp->List Addr->Prop)(mm:Addr->List V->List D->Option D):Prop where
 run:∀(A:Ai) (outer:Ab Env) (s:Ac) (H:Hp) (args:Args) (us:Ab Ad) (vs:Ab V) (Q:VK) (a:Af) (dvs:Ab V),Room k A->Env0 P w K mg base A outer s H->S a dvs s H (frs outer)->BindsTo s fd args (ps.zip us)->Vals vs us->spD K n (mm a dvs) vs H Q E0 ->
  codeAny (model P w) A (.call (.ref f) args) (CR CX0 outer P w H s Q E0) s
structure ZbG(P:Program)(w:World)(K:Frag)(mg:Str->Option Value)(base:Heap)(x:Str)(k n:Nat)(S:Addr->List V->Shared->Hp->List Addr->Prop)(mm:Addr->List V->List D->Option D):Prop where
 ex:∃fA fd ps,ZbE P w K mg base k fA fd ps n S mm/\mg x=some (.ref fA)/\keepIn K (.ref fA)=true/\Binds K fd ps []/\ps.length=n
structure Zcl(fd:FuncData)(base:Heap)(mg:Str->Option Value)(P:Addr):Prop where
 ex:∃c,fd.code=.ref c/\PySem.W.CodeHd base c P
 blt:base.BuiltinsAt mg P
structure Zcm(X:Cx)(P:Addr)(lpos:Pos)(q:Str):Prop where
 ex:∃c,X.env.code=.ref c/\PySem.W.CodeHd X.base c P
 blt:X.base.BuiltinsAt X.mg P
 tab:Z9g X.H₀ P (lpos,q)
 qual:X.env.qual ++ "<lambda>" = q
def spT(K:Frag)(P:Af)(pq:Pos×Str)(n:Nat)(f:Ab D->Aa D):Sp:=λvs H Q E=>Z9g H P pq/\spD K n f vs H Q E
structure ZbF(P:Program)(w:World)(K:Frag)(mg:Str->Option Value)(base:Heap)(x:Str)(P₀:Addr)(pq:Pos×Str)(k n:Nat)(F':List D->Option D):Prop where
 ex:∃fA fd ps,iF P w K mg base CX0 k fA fd ps (spT K P₀ pq n F')/\mg x=some (.ref fA)/\keepIn K (.ref fA)=true/\Binds K fd ps []
def Hid(H:Hp)(D:Ab Af):Hp:=λb=>if b∈D then none else H b
def Unh(H H1:Hp)(D:Ab Af):Hp:=λb=>if b∈D then H b else H1 b
def oN{H:Hp}{D:Ab Af}{b:Af}(h:b∈D):Hid H D b=none:=if_pos h
def bR{H:Hp}{D:Ab Af}{b:Af}(h:b∉D):Hid H D b=H b:=if_neg h
def Z0G{H H1:Hp}{D:Ab Af}{b:Af}(h:b∈D):Unh H H1 D b=H b:=if_pos h
def kR{H H1:Hp}{D:Ab Af}{b:Af}(h:b∉D):Unh H H1 D b=H1 b:=if_neg h
def gF{H:Hp}{D:Ab Af}{b:Af}{o:HO}(h:Hid H D b=some o):b∉D/\H b=some o:=by
 unfold Hid at h;split at h
 .cases h
 .exact⟨‹_›,h⟩
structure Hd(H:Hp)(D:List Addr):Prop where
 kind:∀b∈D,(∃xs,H b=some (.lst xs))\/(∃C dx fs,H b=some (.ins C dx fs)/\dx∈D)\/∃x C fs,H x=some (.ins C b fs)/\H b=some (.own x)/\x∈D
def Hd.ex{H:Hp}{D:Ab Af}(h:Hd H D){b:Af}(a:b∈D):∃u,H b=some u/\(∀xs,u ≠ .tup xs)/\(∀o v,u ≠ .frz o v)/\∀ps,u ≠ .tbl ps:=by
 rcases h.kind b a with⟨xs,e⟩|⟨C,dx,fs,e,_⟩|⟨x,C,fs,_,e,_⟩<;>exact⟨_,e,by simp,by simp,by simp⟩
theorem Hd.tup{H:Hp}{D:Ab Af}(h:Hd H D){b:Af}{xs:Ab V}(e:H b=some (.tup xs)):b∉D:=λf=>by
 obtain⟨u,a,n,_⟩:=h.ex f;rw[e]at a;cases a;exact n _ rfl
theorem Hd.frz{H:Hp}{D:Ab Af}(h:Hd H D){b:Af}{o:Obj}{u:HO}(e:H b=some (.frz o u)):b∉D:=λf=>by
 obtain⟨u,a,_,n,_⟩:=h.ex f;rw[e]at a;cases a;exact n _ _ rfl
theorem Hd.tbl{H:Hp}{D:Ab Af}(h:Hd H D){b:Af}{ps:Ae (Pos×Str)}(e:H b=some (.tbl ps)):b∉D:=λf=>by
 obtain⟨u,a,_,_,n⟩:=h.ex f;rw[e]at a;cases a;exact n _ rfl
section
variable {X:Cx}{pins os:Ab (Af×Obj)}{σ:L2.St}{H H1:Hp}{s s1:Ac}{D:Ab Af}
theorem Z2q{h:Ah}:∀(D:Ab Af),(∀b∈D,∃o,h.get? b=some o/\∀v,o.data ≠ .cell v)->∃os:Ab (Af×Obj),(∀b∈D,∃o,(b,o)∈os)/\∀p∈os,p.1∈D/\h.get? p.1=some p.2/\∀v,p.2.data ≠ .cell v
 |[],_=>⟨[],λb hb=>(by cases hb),λp hp=>(by cases hp)⟩
 |b::D,hD=>by
  obtain⟨os,h1,a⟩:=Z2q D λc hc=>hD c (Qab _ hc);obtain⟨o,e,hc⟩:=hD b Qah;refine⟨(b,o)::os,λc hc'=>?_,λp hp=>?_⟩
  .rcases Qad.mp hc' with rfl|z
   .exact⟨o,Qah⟩
   .obtain⟨o',h'⟩:=h1 c z;exact⟨o',Qab _ h'⟩
  .rcases Qad.mp hp with rfl|z
   .exact⟨Qah,e,hc⟩
   .exact⟨Qab _ (a p z).1,(a p z).2⟩
def Z6h(I:Inv X pins σ H s)(a:Hd H D):∃os:Ab (Af×Obj),(∀b∈D,∃o,(b,o)∈os)/\(∀p∈os,p.1∈D/\s.heap.get? p.1=some p.2)/\Inv X (pins++os) σ (Hid H D) s:=by
 have f:∀b∈D,∃o,s.heap.get? b=some o/\∀v,o.data ≠ .cell v:=λb h=>by
  rcases a.kind b h with⟨xs,e⟩|⟨C,dx,fs,e,_⟩|⟨x,C,fs,e,_,_⟩
  .obtain⟨_,its,n,_,g⟩:=(show ObjOk X.prog X.w H s.heap b (.lst xs) from I.hok b _ e)
   exact⟨_,g,by simp⟩
  .obtain⟨_,_,_,g,_⟩:=(show ObjOk X.prog X.w H s.heap b (.ins C dx fs) from I.hok b _ e)
   exact⟨_,g,by simp[PySem.W.instObj]⟩
  .obtain⟨_,_,_,_,mA,⟨o,es,ep,g,J,_⟩,_⟩:=(show ObjOk X.prog X.w H s.heap x (.ins C b fs) from I.hok x _ e)
   exact⟨o,g,by rw[J];simp⟩
 obtain⟨os,h1,B⟩:=Z2q D f;have L:∀b∈D,b∉X.fs:=λb h hf=>by
  obtain⟨_,o,K,_⟩:=I.ok.funs.mem hf;have:=I.base.free b o K (I.ok.frf b hf) λz=>I.ok.exfs b z hf;obtain⟨u,e,_⟩:=a.ex h;rw[this]at e;cases e
 have M:∀b∈D,b≠X.env.locals:=λb h z=>by
  obtain⟨u,e,_⟩:=a.ex h;rw[z,I.free]at e;cases e
 have none_of:∀{b:Af},H b=none->Hid H D b=none:=λ{b} e=>by unfold Hid;split<;>first|rfl|exact e
 refine⟨os,h1,λp hp=>⟨(B p hp).1,(B p hp).2.1⟩,I.ok,I.os,I.bare,⟨I.base.keep,I.base.slot,λb o e n E=>none_of (I.base.free b o e n E),I.base.there,λb xs e=>?_,λb o u e=>?_,λb ps e=>?_⟩,I.loc,I.cell,none_of I.free,λx c e=>none_of (I.freeC x c e),λp hp=>?_,λb u e=>?_,I.len⟩
 .have:=I.base.tups b xs e;rw[bR (a.tup this)];exact this
 .have:=I.base.frzs b o u e;rw[bR (a.frz this)];exact this
 .obtain⟨more,this⟩:=I.base.tbls b ps e;exact⟨more,by rw[bR (a.tbl this)];exact this⟩
 .rcases Qai.mp hp with z|z
  .obtain⟨i,l,t,y,A⟩:=I.pin p (Qaq _ z);exact⟨i,none_of l,t,y,A⟩
  .rcases Qai.mp z with z|z
   .obtain⟨i,l,t,y,A⟩:=I.pin p (Qag _ z);exact⟨i,none_of l,t,y,A⟩
   .obtain⟨i,l,t⟩:=B p z;exact⟨l,oN i,M _ i,L _ i,t⟩
 .obtain⟨h,e⟩:=gF e;refine(I.hok b u e).stay (λ_ _ _ q=>q) (λb' q=>?_) (λb' xs q=>by rw[bR (a.tup q)];exact q) (λb' o q r=>by rw[bR (a.frz r)];exact r);have:b'∉D:=λF=>by
   rcases a.kind b' F with⟨xs,j⟩|⟨C,dx,fs,j,_⟩|⟨x,C,fs,j,G,E⟩
   .rw[q]at j;cases j
   .rw[q]at j;cases j
   .rw[q]at G;cases G;exact h E
  rw[bR this];exact q
def Z6g{t:L2.St}(l:Inv X pins t H s)(F:Hd H D)(h1:∀b∈D,∃o,(b,o)∈os)(T:∀p∈os,p.1∈D/\s.heap.get? p.1=some p.2)(I:Inv X (pins++os) σ H1 s1)
  (Y:∀b xs,H b=some (.tup xs)->H1 b=some (.tup xs)) (Z:∀b o u,H b=some (.frz o u)->H1 b=some (.frz o u)) (L:∀b∈D,X.s₀.heap.get? b=none\/X.H₀ b≠none\/b∈X.ex):Inv X pins σ (Unh H H1 D) s1:=by
 have kept:∀b∈D,∀o,s.heap.get? b=some o->s1.heap.get? b=some o:=λb a o e=>by
  obtain⟨o',h⟩:=h1 b a;have i:s.heap.get? b=some o':=(T _ h).2;rw[e]at i;cases i;exact(I.pin (b,o) (Qag _ (Qag _ h))).1
 have out:∀{b:Af}{u:HO},H1 b=some u->b∉D:=λ{b u} e a=>by
  obtain⟨o',h⟩:=h1 b a;have:=(I.pin (b,o') (Qag _ (Qag _ h))).2.1;rw[show H1 b=none from this]at e;cases e
 have U:∀b∈D,b≠X.env.locals:=λb a=>by
  obtain⟨o',h⟩:=h1 b a;exact(I.pin (b,o') (Qag _ (Qag _ h))).2.2.1
 have f:∀{b:Af}{u:HO},H1 b=some u->Unh H H1 D b=some u:=λe=>by rw[kR (out e)];exact e
 have y:∀x c,X.env.cells.lookup x=some c->c∉D:=λx c e hc=>by
  obtain⟨o',h⟩:=h1 c hc;obtain⟨M,_,_,_,W⟩:=I.pin (c,o') (Qag _ (Qag _ h));obtain⟨v,oc,j,Q⟩:=I.cell x c e;rw[M]at j;cases j;exact W v Q
 refine⟨I.ok,I.os,I.bare,⟨I.base.keep,I.base.slot,λb o e n B=>?_,I.base.there,λb xs e=>f (I.base.tups b xs e),λb o u e=>f (I.base.frzs b o u e),λb ps e=>?_⟩,I.loc,I.cell,?_,λx c e=>?_,λp hp=>?_,λb u e=>?_,I.len⟩
 .have:b∉D:=λa=>by
   rcases L b a with z|z|z
   .rw[e]at z;cases z
   .exact z n
   .exact B z
  rw[kR this];exact I.base.free b o e n B
 .obtain⟨more,this⟩:=I.base.tbls b ps e;exact⟨more,f this⟩
 .rw[kR (λz=>U _ z rfl)];exact I.free
 .rw[kR (y x c e)];exact I.freeC x c e
 .have E:p∈X.pn++(pins++os):=by
   rcases Qai.mp hp with z|z
   .exact Qaq _ z
   .exact Qag _ (Qaq _ z)
  obtain⟨S,J,P,K,N⟩:=I.pin p E;refine⟨S,?_,P,K,N⟩;have a:p.1∉D:=λa=>by
   obtain⟨u,e,_⟩:=F.ex a;rw[(l.pin p hp).2.1]at e;cases e
  rw[kR a];exact J
 .by_cases a:b∈D
  .rw[Z0G a]at e;rcases F.kind b a with⟨xs,i⟩|⟨C,dx,fs,i,A⟩|⟨x,C,fs,i,G,B⟩
   .rw[i]at e;cases e;obtain⟨z,its,n,r,g⟩:=(show ObjOk X.prog X.w H s.heap b (.lst xs) from l.hok b _ i)
    exact⟨z,its,n,r,kept b a _ g⟩
   .rw[i]at e;cases e;obtain⟨d,z,O,g,mA,⟨R,es,ep,j,c⟩,r⟩:=(show ObjOk X.prog X.w H s.heap b (.ins C dx fs) from l.hok b _ i)
    exact⟨by rw[Z0G A];exact d,z,O,kept b a _ g,mA,⟨R,es,ep,kept dx A _ j,c⟩,r⟩
   .rw[G]at e;cases e;obtain⟨o,g⟩:=(show ObjOk X.prog X.w H s.heap b (.own x) from l.hok b _ G)
    exact⟨o,kept b a _ g⟩
  .rw[kR a]at e;exact(I.hok b u e).stay (λ_ _ _ q=>q) (λb' q=>f q) (λb' xs q=>f q) (λb' o q r=>f r)
end
def Z76(H:Hp)(b:Af):Prop:=(∀xs,H b≠some (.tup xs))/\∀o u,H b≠some (.frz o u)
def pM(e:H b=some o)(h1:∀xs,o ≠ .tup xs)(a:∀x u,o ≠ .frz x u):Z76 H b :=
 ⟨λxs z=>by rw[e]at z;cases z;exact h1 _ rfl,λx u z=>by rw[e]at z;cases z;exact a _ _ rfl⟩
mutual
theorem L3{K:Frag}{H:Hp}:∀(d:D) (v:V) (fp:Ab Af),Rep K true H d v fp->∀b∈fp,Z76 H b
 | .non,v,fp,h,b,hb=>by simp only[Rep]at h;rw[h.2]at hb;cases hb
 | .bl _,v,fp,h,b,hb=>by simp only[Rep]at h;rw[h.2]at hb;cases hb
 | .int _,v,fp,h,b,hb=>by simp only[Rep]at h;rw[h.2]at hb;cases hb
 | .str _,v,fp,h,b,hb=>by simp only[Rep]at h;rw[h.2]at hb;cases hb
 | .tup ds,v,fp,h,b,hb=>by
  simp only[Rep]at h;obtain⟨a,vs,e,hs,hr⟩:=h;exact reps_ntf ds vs fp hr b hb
 | .lst ds,v,fp,h,b,hb=>by
  simp only[Rep]at h;obtain⟨a,vs,fp',e,hr,hs⟩:=h;rcases hs with⟨rfl,hs⟩|⟨z,_⟩
  .rcases Qad.mp hb with rfl|hb
   .exact pM hs (by simp) (by simp)
   .exact reps_ntf ds vs fp' hr b hb
  .cases z
 | .obj C ns ds,v,fp,h,b,hb=>by
  simp only[Rep]at h;obtain⟨a,dx,vs,fp',e,rfl,hs,hd,hl,hr⟩:=h;rcases Qad.mp hb with rfl|hb
  .exact pM hs (by simp) (by simp)
  rcases Qad.mp hb with rfl|hb
  .exact pM hd (by simp) (by simp)
  .exact reps_ntf ds vs fp' hr b hb
 | .dk ks ds,v,fp,h,b,hb=>by
  simp only[Rep]at h;obtain⟨a,vs,fp',e,rfl,hs,hl,hr⟩:=h;rcases Qad.mp hb with rfl|hb
  .exact pM hs (by simp) (by simp)
  .exact reps_ntf ds vs fp' hr b hb
 | .dt ks ds,v,fp,h,b,hb=>by
  simp only[Rep]at h;obtain⟨a,es,ep,vs,fp',e,hk,hv,ht,hr,hs⟩:=h;rcases hs with⟨rfl,hs⟩|⟨z,_⟩
  .rcases Qad.mp hb with rfl|hb
   .exact pM hs (by simp) (by simp)
   .exact reps_ntf ds vs fp' hr b hb
  .cases z
 | .exc C,v,fp,h,b,hb=>by
  simp only[Rep]at h;obtain⟨a,e,rfl,hs⟩:=h;rw[QaS.mp hb];exact pM hs (by simp) (by simp)
 | .fn a vs ds,v,fp,h,b,hb=>by
  simp only[Rep]at h;exact reps_ntf ds vs fp h.2 b hb
theorem reps_ntf{K:Frag}{H:Hp}:∀(ds:Ab D) (vs:Ab V) (fp:Ab Af),Reps K true H ds vs fp->∀b∈fp,Z76 H b
 |[],vs,fp,h,b,hb=>by simp only[Reps]at h;rw[h.2]at hb;cases hb
 |d::ds,vs,fp,h,b,hb=>by
  simp only[Reps]at h;obtain⟨v,r,f1,f2,e1,rfl,h1,h2⟩:=h;rcases Qai.mp hb with hb|hb
  .exact L3 d v f1 h1 b hb
  .exact reps_ntf ds r f2 h2 b hb
end
def pln:D->Bool
 | .non=>true
 | .bl _=>true
 | .int _=>true
 | .str _=>true
 | .tup ds=>plns ds
 | .lst ds=>plns ds
 | .obj _ _ ds=>plns ds
 |_=>false
where plns:Ab D->Bool
 |[]=>true
 |d::ds=>pln d&&plns ds
def KndH(H:Hp)(b:Af)(fp:Ab Af):Prop:=(∃xs,H b=some (.lst xs))\/(∃C dx fs,H b=some (.ins C dx fs)/\dx∈fp)\/∃x C fs,H x=some (.ins C b fs)/\H b=some (.own x)/\x∈fp
def KndH.sub(h:KndH H b fp)(s:∀c∈fp,c∈fp'):KndH H b fp':=by
 rcases h with h|⟨C,dx,fs,e,m⟩|⟨x,C,fs,e,e2,m⟩
 .exact .inl h
 .exact .inr (.inl ⟨C,dx,fs,e,s _ m⟩)
 .exact .inr (.inr ⟨x,C,fs,e,e2,s _ m⟩)
mutual
theorem Z7G{K:Frag}{H:Hp}:∀(d:D) (v:V) (fp:Ab Af),pln d=true->Rep K true H d v fp->∀b∈fp,KndH H b fp
 | .non,v,fp,_,h,b,hb=>by simp only[Rep]at h;rw[h.2]at hb;cases hb
 | .bl _,v,fp,_,h,b,hb=>by simp only[Rep]at h;rw[h.2]at hb;cases hb
 | .int _,v,fp,_,h,b,hb=>by simp only[Rep]at h;rw[h.2]at hb;cases hb
 | .str _,v,fp,_,h,b,hb=>by simp only[Rep]at h;rw[h.2]at hb;cases hb
 | .tup ds,v,fp,p,h,b,hb=>by
  simp only[Rep]at h;obtain⟨a,vs,e,hs,hr⟩:=h;exact reps_knd ds vs fp (by simpa only [pln]using p) hr b hb
 | .lst ds,v,fp,p,h,b,hb=>by
  simp only[Rep]at h;obtain⟨a,vs,fp',e,hr,hs⟩:=h;rcases hs with⟨rfl,hs⟩|⟨z,_⟩
  .rcases Qad.mp hb with rfl|hb
   .exact .inl ⟨_,hs⟩
   .exact(reps_knd ds vs fp' (by simpa only [pln]using p) hr b hb).sub λc hc=>Qab _ hc
  .cases z
 | .obj C ns ds,v,fp,p,h,b,hb=>by
  simp only[Rep]at h;obtain⟨a,dx,vs,fp',e,rfl,hs,hd,hl,hr⟩:=h;rcases Qad.mp hb with rfl|hb
  .exact .inr (.inl ⟨_,_,_,hs,Qab _ Qah⟩)
  rcases Qad.mp hb with rfl|hb
  .exact .inr (.inr ⟨_,_,_,hs,hd,Qah⟩)
  .exact(reps_knd ds vs fp' (by simpa only [pln]using p) hr b hb).sub λc hc=>Qab _ (Qab _ hc)
 | .dk _ _,_,_,p,_,_,_=>by simp[pln]at p
 | .dt _ _,_,_,p,_,_,_=>by simp[pln]at p
 | .exc _,_,_,p,_,_,_=>by simp[pln]at p
 | .fn _ _ _,_,_,p,_,_,_=>by simp[pln]at p
theorem reps_knd{K:Frag}{H:Hp}:∀(ds:Ab D) (vs:Ab V) (fp:Ab Af),pln.plns ds=true->Reps K true H ds vs fp->∀b∈fp,KndH H b fp
 |[],vs,fp,_,h,b,hb=>by simp only[Reps]at h;rw[h.2]at hb;cases hb
 |d::ds,vs,fp,p,h,b,hb=>by
  simp only[Reps]at h;obtain⟨v,r,f1,f2,e1,rfl,h1,h2⟩:=h;simp only[pln.plns,QaE]at p;rcases Qai.mp hb with hb|hb
  .exact(Z7G d v f1 p.1 h1 b hb).sub λc hc=>Qaq _ hc
  .exact(reps_knd ds r f2 p.2 h2 b hb).sub λc hc=>Qag _ hc
end
structure Hw(K:Frag)(H:Hp)(A:List Addr)(ws:List D)(fp:List Addr):Prop where
 rep:Reps K true H ws (A.map V.ref) fp
 nd:fp.Nodup
 pl:pln.plns ws=true
def Hw.hd{K:Frag}{H:Hp}{A:Ab Af}{ws:Ab D}{fp:Ab Af}(W:Hw K H A ws fp):Hd H fp:=⟨reps_knd _ _ _ W.pl W.rep⟩
def SInvG(K:Frag)(P H:Hp)(σ:L2.St)(env:En)(A:Ab Af)(ws:Ab D):Prop:=∃fp,Hw K H A ws fp/\SInv K P (Hid H fp) σ env
def Z75(K:Frag)(P:Hp)(A:Ab Af)(E:T1)(r:Res)(ws:Ab D):Prop:=match r with
 | .next env=>∀σ H,SInvG K P H σ env A ws->E.nx σ H
 | .ret d=>∀v H fp fw,Hw K H A ws fw->Same P (Hid H fw)->Rep K true (Hid H fw) d v fp->(∀b∈fp,P b=none)->fp.Nodup->E.rt v H
 | .brk env=>∀σ H,SInvG K P H σ env A ws->E.bk σ H
 | .cont env=>∀σ H,SInvG K P H σ env A ws->E.ct σ H
 | .bad=>False
def Z4Q(K:Frag)(A:Ab Af)(g:En->Ab D->Res×Ab D):TS:=λE σ H=>∃P env ws,SInvG K P H σ env A ws/\Z75 K P A E (g env ws).1 (g env ws).2
def QSg(X:Cx)(A:Ab Af)(st:Stmt)(g:En->Ab D->Res×Ab D):Prop:=PS X st (Z4Q X.K A g)
def QSsg(X:Cx)(A:Ab Af)(st:Ab Stmt)(g:En->Ab D->Res×Ab D):Prop:=PSs X st (Z4Q X.K A g)
section
variable {X:Cx}{A:Ab Af}{st:Stmt}{pins os:Ab (Af×Obj)}{σ σ':L2.St}{P H H1:Hp}{s s1:Ac}{Dl:Ab Af}{ws:Ab D}{env:En}
def nI(P H:Hp):Hp:=λb=>match H b with
 |some (.tup xs)=>some (.tup xs)
 |some (.frz o u)=>some (.frz o u)
 |_=>P b
def rA:(nI P H b=H b/\((∃xs,H b=some (.tup xs))\/∃o u,H b=some (.frz o u)))\/(nI P H b=P b/\Z76 H b):=by
 unfold nI;cases e:H b with
 |none=>exact .inr ⟨rfl,λ_ z=>(by rw[e]at z;cases z),λ_ _ z=>(by rw[e]at z;cases z)⟩
 |some o=>cases o<;>first|exact .inl ⟨rfl,.inl ⟨_,rfl⟩⟩|exact .inl ⟨rfl,.inr ⟨_,_,rfl⟩⟩|exact .inr ⟨rfl,λ_ z=>(by rw[e]at z;cases z),λ_ _ z=>(by rw[e]at z;cases z)⟩
def Z4C(s:Same P H):Same (nI P H) H:=λb o e=>by
 rcases rA (P:=P) (H:=H) (b:=b)with⟨h,_⟩|⟨h,_⟩
 .rw[h]at e;exact e
 .rw[h]at e;exact s b o e
def Z8L(s:Same P H):Same P (nI P H):=λb o e=>by
 rcases rA (P:=P) (H:=H) (b:=b)with⟨h,_⟩|⟨h,_⟩
 .rw[h];exact s b o e
 .rw[h];exact e
def Z73(e:H b=some (.tup xs)):nI P H b=some (.tup xs):=by unfold nI;rw[e]
def Z74(e:H b=some (.frz o u)):nI P H b=some (.frz o u):=by unfold nI;rw[e]
def Z3g{K:Frag}(I:SInv K P H σ env):SInv K (nI P H) H σ env:=by
 obtain⟨F,hF⟩:=I.ex;refine⟨Z4C I.same,I.len,F,hF.ok,λi d e=>?_⟩;obtain⟨j,p,a,l⟩:=hF.own i d e;refine⟨j,λb hb=>?_,a,l⟩;obtain⟨v,n,_⟩:=hF.ok i true d e;have f:=L3 _ _ _ (a v n) b hb;rcases rA (P:=P) (H:=H) (b:=b)with⟨_,⟨xs,h⟩|⟨o,u,h⟩⟩|⟨h,_⟩
 .exact absurd h (f.1 xs)
 .exact absurd h (f.2 o u)
 .rw[h];exact p b hb
def Z3f{K:Frag}{a:Hp}(I:SInv K a H σ env)(s:Same P a):SInv K P H σ env:=by
 obtain⟨F,hF⟩:=I.ex;refine⟨s.trans I.same,I.len,F,hF.ok,λi d e=>?_⟩;obtain⟨f,l,j,h⟩:=hF.own i d e;exact⟨f,λb hb=>s.free (l b hb),j,h⟩
def Z8t{K:Frag}(W:Hw K H A ws Dl)(h:∀b∈Dl,H1 b=none)(i:∀b xs,H b=some (.tup xs)->H1 b=some (.tup xs))(j:∀b o u,H b=some (.frz o u)->H1 b=some (.frz o u)):Hw K (Unh H H1 Dl) A ws Dl/\Hid (Unh H H1 Dl) Dl=H1:=by
 have f:∀{b:Af}{u:HO},H1 b=some u->Unh H H1 Dl b=some u:=λ{b u} e=>by
  rw[kR (λz=>by rw[h b z]at e;cases e)];exact e
 refine⟨⟨Reps.keep _ _ _ ⟨λb a o e=>by rw[Z0G a];exact e,λb xs e=>f (i b xs e),λb o u e=>f (j b o u e)⟩ W.rep,W.nd,W.pl⟩,?_⟩;funext b;by_cases a:b∈Dl
 .rw[oN a,h b a]
 .rw[bR a,kR a]
def Z1m(I:Inv X pins σ H s)(h:Hd H Dl):∀b∈Dl,X.s₀.heap.get? b=none\/X.H₀ b≠none\/b∈X.ex:=λb hb=>by
 by_cases a:b∈X.ex
 .exact .inr (.inr a)
 .cases e:X.s₀.heap.get? b with
  |none=>exact .inl rfl
  |some o =>
   refine .inr (.inl λz=>?_);have:=I.base.free b o e z a;obtain⟨u,f,_⟩:=h.ex hb;rw[this]at f;cases f
def Z9O{g:En->Res}(h:QS X st g):QSg X A st (λenv ws=>(g env,ws)):=by
 intro pins s σ H E I ⟨P,env,ws,⟨Dl,W,IS⟩,q⟩;obtain⟨os,h1,Q,M⟩:=Z6h I W.hd;have n:=Z8L IS.same;have t:∀{H1:Hp},Same (nI P (Hid H Dl)) H1->(∀b xs,H b=some (.tup xs)->H1 b=some (.tup xs))/\∀b o u,H b=some (.frz o u)->H1 b=some (.frz o u):=λ{H1} sm=>⟨λb xs e=>sm _ _ (Z73 (by rw[bR (W.hd.tup e)];exact e)),λb o u e=>sm _ _ (Z74 (by rw[bR (W.hd.frz e)];exact e))⟩;have back:∀{σ':L2.St}{H1:Hp}{s1:Ac},Inv X (pins++os) σ' H1 s1->Same (nI P (Hid H Dl)) H1->Inv X pins σ' (Unh H H1 Dl) s1/\Hw X.K (Unh H H1 Dl) A ws Dl/\Hid (Unh H H1 Dl) Dl=H1:=λ{σ' H1 s1} J sm=>by
  obtain⟨F,G⟩:=t sm;have O:∀b∈Dl,H1 b=none:=λb hb=>by
   obtain⟨o',N⟩:=h1 b hb;exact(J.pin (b,o') (Qag _ (Qag _ N))).2.1
  exact⟨Z6g I W.hd h1 Q J F G (Z1m I W.hd),Z8t W O F G⟩
 let L:T1:=⟨λσ1 H1=>∃e1,SInv X.K (nI P (Hid H Dl)) H1 σ1 e1/\g env=Res.next e1,λv H1=>∃d f1,Same (nI P (Hid H Dl)) H1/\Rep X.K true H1 d v f1/\(∀b∈f1,nI P (Hid H Dl) b=none)/\f1.Nodup/\g env=Res.ret d,
  λσ1 H1=>∃e1,SInv X.K (nI P (Hid H Dl)) H1 σ1 e1/\g env=Res.brk e1,λσ1 H1=>∃e1,SInv X.K (nI P (Hid H Dl)) H1 σ1 e1/\g env=Res.cont e1⟩
 have C:Post X.K (nI P (Hid H Dl)) L (g env):=by
  cases a:g env with
  |next i=>exact λσ' H1 J=>⟨i,J,a⟩
  |ret d=>exact λv H1 fp' w x B y=>⟨d,fp',w,x,B,y,a⟩
  |brk i=>exact λσ' H1 J=>⟨i,J,a⟩
  |cont i=>exact λσ' H1 J=>⟨i,J,a⟩
  |bad=>simp only[a]at q;exact q
 refine thn (h (pins++os) s σ (Hid H Dl) L M ⟨_,env,Z3g IS,C⟩) λf s1 hf=>?_;have step:∀{σ':L2.St}{H1:Hp}{i:En},Inv X (pins++os) σ' H1 s1->SInv X.K (nI P (Hid H Dl)) H1 σ' i->Inv X pins σ' (Unh H H1 Dl) s1/\SInvG X.K P (Unh H H1 Dl) σ' i A ws:=λ{σ' H1 i} J S=>by
  obtain⟨l,j,p⟩:=back J S.same;exact⟨l,Dl,j,by rw[p];exact Z3f S n⟩
 cases f with
 |next =>
  obtain⟨σ',H1,J,i,S,a⟩:=hf;obtain⟨l,j⟩:=step J S;simp only[a]at q;exact⟨σ',_,l,q _ _ j⟩
 |brk =>
  obtain⟨σ',H1,J,i,S,a⟩:=hf;obtain⟨l,j⟩:=step J S;simp only[a]at q;exact⟨σ',_,l,q _ _ j⟩
 |cont =>
  obtain⟨σ',H1,J,i,S,a⟩:=hf;obtain⟨l,j⟩:=step J S;simp only[a]at q;exact⟨σ',_,l,q _ _ j⟩
 |ret u =>
  obtain⟨v,σ',H1,J,r,d,fp',w,x,B,y,a⟩:=hf;obtain⟨l,j,p⟩:=back J w;simp only[a]at q;exact⟨v,σ',_,l,r,q v _ fp' Dl j (by rw[p];exact n.trans w) (by rw[p];exact x) (λb hb=>n.free (B b hb)) y⟩
end
section
variable {K:Frag}{P H H':Hp}{σ:L2.St}{env:En}{F:Nat->Ab Af}{d:D}{v:V}{fp fw:Ab Af}{A:Ab Af}{ws:Ab D}
def R4{α:Type}{l:Ab (Aa α)}{x:α}{i:Nat}(e:(l++[none])[i]?=some (some x)):l[i]?=some (some x):=by
 rw[List.getElem?_append]at e;split at e
 .exact e
 .cases h:i-l.length with
  |zero=>rw[h]at e;cases e
  |succ n=>rw[h]at e;cases e
def gT{α:Type}{l:Ab α}{x y:α}{i:Nat}(e:l[i]?=some x):(l++[y])[i]?=some x:=by
 obtain⟨h,_⟩:=Qae.mp e;rw[QaH h];exact e
def kB{α:Type}{l:Ab α}{x:α}{i:Nat}(e:l[i]?=some x):i<l.length:=(Qae.mp e).1
def U7(h:l.length=n):(l++[x]).set n y=l++[y]:=by subst h;simp
def EnvS.app(p:σ.length=env.length)(h:EnvS K P H σ env F):EnvS K P H (σ++[none]) (env++[none]) F:=by
 refine⟨λi o d e=>?_,λi d e=>?_⟩
 .obtain⟨v,h1,l⟩:=h.ok i o d (R4 e);exact⟨v,gT h1,l⟩
 .obtain⟨a,f,n,b⟩:=h.own i d (R4 e);exact⟨a,f,λv hv=>n v (R4 hv),λj s hj ej=>b j s hj (R4 ej)⟩
def pH(e:Same P H)(a:σ.length=env.length)(h:EnvS K P H σ env F)(s:Same H H')(r:Rep K true H' d v fp)(f:fp.Nodup)(fr:∀b∈fp,H b=none):SInv K P H' (σ++[some v]) (env++[some (true,d)]):=by
 have:=pG (σ:=σ++[none]) (env:=env++[none]) env.length e (by simp[a]) (h.app a) s r f fr;rw[U7 a,U7 rfl]at this;exact this
def U4(h:SInv K P H (σ++[x]) (env++[y])):SInv K P H σ env:=by
 have a:σ.length=env.length:=by have:=h.len;simpa using this
 obtain⟨F,hF⟩:=h.ex;refine⟨h.same,a,F,λi o d e=>?_,λi d e=>?_⟩
 .obtain⟨v,h1,n⟩:=hF.ok i o d (gT e);rw[QaH (by rw[a];exact kB e)]at h1;exact⟨v,h1,n⟩
 .obtain⟨b,l,p,f⟩:=hF.own i d (gT e);exact⟨b,l,λv hv=>p v (gT hv),λj s hj ej=>f j s hj (gT ej)⟩
def lW(h:SInv K P H (σ++[some v]) (env++[some (true,d)])):∃fp,Rep K true H d v fp/\fp.Nodup/\∀b∈fp,P b=none:=by
 have f:σ.length=env.length:=by have:=h.len;simpa using this
 obtain⟨F,hF⟩:=h.ex;have e:(env++[some (true,d)])[env.length]?=some (some (true,d)):=by simp
 obtain⟨a,j,i,_⟩:=hF.own _ _ e;exact⟨_,i v (by rw[<- f];simp),a,j⟩
def Z3e(i:Nat)(h:SInv K P H (σ++[some v]) (env++[some (true,d)])):SInv K P H (σ.set i (some v)) (env.set i (some (true,d))):=by
 have l:σ.length=env.length:=by have:=h.len;simpa using this
 by_cases hi:i<env.length
 .obtain⟨F,hF⟩:=h.ex;have q:(env++[some (true,d)])[env.length]?=some (some (true,d)):=by simp
  have n:(σ++[some v])[env.length]?=some (some v):=by rw[<- l];simp
  obtain⟨x,A,p,t⟩:=hF.own _ _ q;refine⟨h.same,by simp[l],Z09 F i (F env.length),λj o d' e=>?_,λj d' e=>?_⟩
  .rw[cN hi]at e;by_cases a:j=i
   .subst a;rw[if_pos rfl]at e;cases e;exact⟨v,QaQ (by omega),by rw[bS];exact Rep.weak _ _ _ (p v n)⟩
   .rw[if_neg a]at e;obtain⟨w,h1,C⟩:=hF.ok j o d' (gT e);rw[QaH (by rw[l];exact kB e)]at h1;exact⟨w,by rw[Qar (Ne.symm a)];exact h1,by rw[bA a];exact C⟩
  .rw[cN hi]at e;by_cases a:j=i
   .subst a;rw[if_pos rfl]at e;cases e;rw[bS];refine⟨x,A,λw hw=>?_,λk s' hk ek b hb=>?_⟩
    .rw[QaQ (by omega)]at hw;cases hw;exact p v n
    .rw[cN hi,if_neg hk]at ek;rw[bA hk];exact t k s' (QaM (kB ek)) (gT ek) b hb
   .rw[if_neg a]at e;obtain⟨B,y,u,r⟩:=hF.own j d' (gT e);rw[bA a];refine⟨B,y,λw hw=>?_,λk s' hk ek b hb=>?_⟩
    .rw[Qar (Ne.symm a)]at hw;exact u w (gT hw)
    .rw[cN hi]at ek;by_cases f:k=i
     .subst f;rw[bS];exact r env.length _ (QbC (kB e)) q b hb
     .rw[if_neg f]at ek;rw[bA f];exact r k s' hk (gT ek) b hb
 .rw[QaR (by omega),QaR (by omega)];exact U4 h
def kM(s:Same H H'):Same (Hid H fw) (Hid H' fw):=λb o e=>by
 obtain⟨h1,a⟩:=gF e;rw[bR h1];exact s _ _ a
def hid_le:Same (Hid H fw) H:=λb o e=>(gF e).2
def Hd.same(h:Hd H D')(s:Same H H'):Hd H' D':=⟨λb hb=>by
 rcases h.kind b hb with⟨xs,e⟩|⟨C,dx,fs,e,m⟩|⟨x,C,fs,e,a,m⟩
 .exact .inl ⟨xs,s _ _ e⟩
 .exact .inr (.inl ⟨C,dx,fs,s _ _ e,m⟩)
 .exact .inr (.inr ⟨x,C,fs,s _ _ e,s _ _ a,m⟩)⟩
def Z23{st:Bool}(hd:Hd H fw)(r:Rep K st H d v fp)(a:∀b∈fp,b∉fw):Rep K st (Hid H fw) d v fp :=
 Rep.keep _ _ _ ⟨λb hb o e=>by rw[bR (a b hb)];exact e,λb xs e=>by rw[bR (hd.tup e)];exact e,λb o u e=>by rw[bR (hd.frz e)];exact e⟩ r
theorem Hw.same(W:Hw K H A ws fw)(s:Same H H'):Hw K H' A ws fw:=⟨W.rep.same s,W.nd,W.pl⟩
theorem Hw.dom(W:Hw K H A ws fw):∀b∈fw,∃o,H b=some o:=Reps.dom _ _ _ W.rep
theorem SInvG.grow(I:SInvG K P H σ env A ws)(s:Same H H'):SInvG K P H' σ env A ws:=by
 obtain⟨fw,W,a⟩:=I;exact⟨fw,W.same s,a.grow (kM s)⟩
def SInvG.push(I:SInvG K P H σ env A ws)(s:Same H H')(r:Rep K true H' d v fp)(h:fp.Nodup)(fr:∀b∈fp,H b=none):SInvG K P H' (σ++[some v]) (env++[some (true,d)]) A ws:=by
 obtain⟨fw,W,a⟩:=I;obtain⟨F,hF⟩:=a.ex;have f:∀b∈fp,b∉fw:=λb hb z=>by
  obtain⟨o,e⟩:=W.dom b z;rw[fr b hb]at e;cases e
 exact⟨fw,W.same s,pH a.same a.len hF (kM s) (Z23 (W.hd.same s) r f) h λb hb=>by rw[bR (f b hb)];exact fr b hb⟩
def SInvG.pop(I:SInvG K P H (σ++[x]) (env++[y]) A ws):SInvG K P H σ env A ws:=by
 obtain⟨fw,W,a⟩:=I;exact⟨fw,W,U4 a⟩
def SInvG.eok(I:SInvG K P H σ env A ws):∃F,EnvOk K H σ env F:=by
 obtain⟨fw,W,a⟩:=I;obtain⟨F,hF⟩:=a.ex;exact⟨F,hF.ok.same hid_le⟩
open Classical in
def opn(a:Af)(w:D)(env:En):En:=env.map λs=>match s with
 |some (o,d)=>if d=.fn a [] [] then some (false,w) else some (o,d)
 |none=>none
theorem SInvG.opn(I:SInvG K P H σ env [a] [w]):∃F,EnvOk K H σ (PD.opn a w env) F:=by
 classical
 obtain⟨fw,W,j⟩:=I;obtain⟨F,hF⟩:=j.ex;have f:=W.rep;simp only[Qak,QaT,Reps]at f;obtain⟨u,l,f1,n,h,y,h1,x,q⟩:=f;cases h;refine⟨λi=>if ∃o,env[i]?=some (some (o,.fn a [] [])) then f1 else F i,λi o d e=>?_⟩;unfold PD.opn at e;rw[QaA]at e;cases hi:env[i]? with
 |none=>rw[hi]at e;cases e
 |some s =>
  cases s with
  |none=>rw[hi]at e;cases e
  |some p =>
   obtain⟨o',d'⟩:=p;rw[hi]at e;obtain⟨v,b,r⟩:=hF.ok i o' d' hi;simp only[Qav]at e;by_cases hd:d'=.fn a [] []
   .rw[if_pos hd]at e;cases e;subst hd;simp only[Rep]at r;refine⟨v,b,?_⟩;show Rep K false H w v (if ∃o,env[i]?=some (some (o,D.fn a [] [])) then f1 else F i);rw[if_pos ⟨o',hi⟩,r.1];exact Rep.weak _ _ _ h1
   .rw[if_neg hd]at e;cases e;refine⟨v,b,?_⟩;show Rep K false H d v (if ∃o,env[i]?=some (some (o,D.fn a [] [])) then f1 else F i);rw[if_neg (λ⟨t,z⟩=>by rw[hi]at z;cases z;exact hd rfl)];exact r.same hid_le
end
def tDg(K:Frag)(A:Ab Af)(f:En->Ab D->Aa (D×Ab D)):TE:=λσ H Q=>∃P env ws d ws',SInvG K P H σ env A ws/\f env ws=some (d,ws')/\∀v H',SInvG K P H' (σ++[some v]) (env++[some (true,d)]) A ws'->Q v H'
def Z7m(K:Frag)(A:Ab Af)(f:En->Ab D->Aa (Bool×Ab D)):TT:=λσ H Q=>∃P env ws b ws',SInvG K P H σ env A ws/\f env ws=some (b,ws')/\∀H',SInvG K P H' σ env A ws'->Q b H'
def QEg(X:Cx)(A:Ab Af)(e:Ag)(f:En->Ab D->Aa (D×Ab D)):Prop:=PE X e (tDg X.K A f)
def QTg(X:Cx)(A:Ab Af)(e:Ag)(f:En->Ab D->Aa (Bool×Ab D)):Prop:=PT X e (Z7m X.K A f)
section
variable {X:Cx}{A:Ab Af}{a:Af}{e c:Ag}{st:Stmt}{sts sa sb:Ab Stmt}{f:En->Aa D}{f':En->Ab D->Aa (D×Ab D)}{b:En->Aa Bool}{b':En->Ab D->Aa (Bool×Ab D)}{g h:En->Ab D->Res×Ab D}{pos:Pos}
def QEg.mk(h:PE X e t)(hi:∀σ H Q,tDg X.K A f' σ H Q->t σ H Q):QEg X A e f':=λpins s σ H Q I q=>h pins s σ H Q I (hi σ H Q q)
def QTg.mk(h:PT X e t)(hi:∀σ H Q,Z7m X.K A b' σ H Q->t σ H Q):QTg X A e b':=λpins s σ H Q I q=>h pins s σ H Q I (hi σ H Q q)
def QSg.mk(h:PS X st t)(hi:∀E σ H,Z4Q X.K A g E σ H->t E σ H):QSg X A st g:=λpins s σ H E I q=>h pins s σ H E I (hi E σ H q)
def QSsg.mk(h:PSs X sts t)(hi:∀E σ H,Z4Q X.K A g E σ H->t E σ H):QSsg X A sts g:=λpins s σ H E I q=>h pins s σ H E I (hi E σ H q)
def gPl(f:En->Aa D):En->Ab D->Aa (D×Ab D):=λenv ws=>(f env).map λd=>(d,ws)
def Z9S(h:QE X true [] e f):QEg X A e (gPl f):=.mk h λσ H Q ⟨P,env,ws,d,ws',I,e,q⟩=>by
 obtain⟨F,hF⟩:=I.eok;unfold gPl at e;cases a:f env with
 |none=>rw[a]at e;cases e
 |some d' =>
  rw[a]at e;cases e;exact⟨env,F,d,hF,a,λv H' fp s r c=>q v H' (I.push s r (c.2 rfl).1 (c.2 rfl).2)⟩
def gOp(a:Af)(f:En->Aa D):En->Ab D->Aa (D×Ab D):=λenv ws=>match ws with
 |[w]=>(f (opn a w env)).map λd=>(d,[w])
 |_=>none
def Z5p(h:QE X true [] e f):QEg X [a] e (gOp a f):=.mk h λσ H Q ⟨P,env,ws,d,ws',I,e,q⟩=>by
 unfold gOp at e;split at e
 .rename_i w;obtain⟨F,hF⟩:=I.opn;cases b:f (opn a w env) with
  |none=>rw[b]at e;cases e
  |some d' =>
   rw[b]at e;cases e;exact⟨_,F,d,hF,b,λv H' fp s r c=>q v H' (I.push s r (c.2 rfl).1 (c.2 rfl).2)⟩
 .cases e
def A7(f:En->Aa Bool):En->Ab D->Aa (Bool×Ab D):=λenv ws=>(f env).map λd=>(d,ws)
def Z5l(h:QT X e b):QTg X A e (A7 b):=.mk h λσ H Q ⟨P,env,ws,d,ws',I,e,q⟩=>by
 obtain⟨F,hF⟩:=I.eok;unfold A7 at e;cases a:b env with
 |none=>rw[a]at e;cases e
 |some d' =>
  rw[a]at e;cases e;exact⟨env,F,d,hF,a,λH' s=>q H' (I.grow s)⟩
def cG(g h:En->Ab D->Res×Ab D):En->Ab D->Res×Ab D:=λenv ws=>match g env ws with
 |(.next env',ws')=>h env' ws'
 |r=>r
def lZ:QSsg X A [] (λenv ws=>(.next env,ws)):=.mk Z2k λE σ H ⟨P,env,ws,I,q⟩=>q σ H I
def eS(h1:QSg X A st g):QSsg X A [st] g:=.mk (wJ h1) λE σ H q=>q
def bB(h1:QSg X A st g)(a:QSsg X A sts h):QSsg X A (st::sts) (cG g h):=.mk (nY h1 a) λE σ H ⟨P,env,ws,I,q⟩=>by
 refine⟨P,env,ws,I,?_⟩;unfold cG at q;cases b:g env ws with
 |mk r ws' =>
  rw[b]at q;cases r with
  |next env'=>exact λσ' H' I'=>⟨P,env',ws',I',q⟩
  |ret d=>exact q
  |brk _=>exact q
  |cont _=>exact q
  |bad=>exact q
def qA(c:En->Ab D->Aa (Bool×Ab D))(g h:En->Ab D->Res×Ab D):En->Ab D->Res×Ab D:=λenv ws=>match c env ws with
 |some (true,ws')=>g env ws'
 |some (false,ws')=>h env ws'
 |none=>(.bad,ws)
def tI(hc:QTg X A c b')(a:QSsg X A sa g)(b:QSsg X A sb h):QSg X A (.If c sa sb pos) (qA b' g h):=.mk (Z93 hc a b) λE σ H ⟨P,env,ws,I,q⟩=>by
 unfold qA at q;split at q
 .rename_i ws' h1;exact⟨P,env,ws,true,ws',I,h1,λH' I'=>Z6 ⟨P,env,ws',I',q⟩⟩
 .rename_i ws' h1;exact⟨P,env,ws,false,ws',I,h1,λH' I'=>Z7 ⟨P,env,ws',I',q⟩⟩
 .exact q.elim
def uX(f:En->Ab D->Aa (D×Ab D)):En->Ab D->Res×Ab D:=λenv ws=>match f env ws with
 |some (d,ws')=>(.ret d,ws')
 |none=>(.bad,ws)
def wG(he:QEg X A e f'):QSg X A (.Return (some e) pos) (uX f'):=.mk (M8 he) λE σ H ⟨P,env,ws,I,q⟩=>by
 unfold uX at q;split at q
 .rename_i d ws' h1;refine⟨P,env,ws,d,ws',I,h1,λv H' ⟨fw,W,IS⟩=>?_⟩;obtain⟨fp,r,a,fr⟩:=lW IS;exact q v H' fp fw W IS.same r fr a
 .exact q.elim
end
theorem qL{K:Frag}{st:Bool}{H:Hp}:∀{ws1 ws2:Ab D}{w:D}{vs:Ab V}{fp:Ab Af},Reps K st H (ws1++w::ws2) vs fp->∃a v b f1 f e,vs=a++v::b/\a.length=ws1.length/\fp=f1++(f++e)/\Reps K st H ws1 a f1/\Rep K st H w v f/\Reps K st H ws2 b e
 |[],ws2,w,vs,fp,h=>by
  simp only[Qbq,Reps]at h;obtain⟨v,r,f1,e,rfl,rfl,h1,i⟩:=h;exact⟨[],v,r,[],f1,e,rfl,rfl,rfl,gZ,h1,i⟩
 |x::ws1,ws2,w,vs,fp,h=>by
  simp only[Qa5,Reps]at h;obtain⟨v,r,f1,e,rfl,rfl,h1,i⟩:=h;obtain⟨a,n,b,j,f,l,rfl,t,rfl,p,o,q⟩:=qL i;exact⟨v::a,n,b,f1++j,f,l,rfl,by simp[t],by simp,Reps.consR h1 p,o,q⟩
theorem nZ:∀{a b:Ab D},pln.plns (a++b)=(pln.plns a&&pln.plns b)
 |[],b=>by simp[pln.plns]
 |x::a,b=>by simp[pln.plns,nZ (a:=a) (b:=b),Bool.and_assoc]
section
variable {K:Frag}{P H H':Hp}{σ:L2.St}{env:En}{F:Nat->Ab Af}{d w w':D}{v:V}{fp f:Ab Af}{A1 A2:Ab Af}{ws1 ws2:Ab D}{a:Af}
def hw_one:Hw K H [a] [w] f↔Rep K true H w (.ref a) f/\f.Nodup/\pln w=true:=by
 constructor
 .intro h;have b:=h.rep;simp only[Qak,QaT,Reps]at b;obtain⟨n,l,f1,p,i,e,h1,o,j⟩:=b;cases i;subst j;rw[QaP]at e;subst e;have:=h.pl;simp only[pln.plns,Bool.and_true]at this;exact⟨h1,h.nd,this⟩
 .intro⟨h1,h2,h3⟩;refine⟨?_,h2,by simp[pln.plns,h3]⟩;have:=Reps.consR h1 (gZ (K:=K) (m:=true) (H:=H));rw[QaP]at this;exact this
def Z4a(T:A1.length=ws1.length)(W:Hw K H (A1++a::A2) (ws1++w::ws2) fp)(C:SInv K P (Hid H fp) σ env) :
  ∃f,Hw K H [a] [w] f/\(∀b∈f,b∈fp) /\
   ∀H' v d w',SInvG K (Hid H f) H' [some v] [some (true,d)] [a] [w']->SInvG K P H' (σ++[some v]) (env++[some (true,d)]) (A1++a::A2) (ws1++w'::ws2):=by
 obtain⟨I,Q,pl⟩:=W;obtain⟨vs1,v0,vs2,f1,f,j,M,X,rfl,q,r,B⟩:=qL I;rw[Qaw,Qak]at M;obtain⟨R,e2⟩:=List.append_inj M (by simp[X,T]);cases e2;subst R;simp only[nZ,pln.plns,QaE]at pl;obtain⟨n1,U,N⟩:=Qau.mp Q;obtain⟨J,Z,n6⟩:=Qau.mp U;have A:∀b∈f1,b∉f:=λb h1 i=>N b h1 b (Qaq _ i) rfl;have p:∀b∈j,b∉f:=λb h1 i=>n6 b i b h1 rfl;refine⟨f,hw_one.mpr ⟨r,J,pl.2.1⟩,λb hb=>Qag _ (Qaq _ hb),λH' v d w' ⟨f',W',IS'⟩=>?_⟩;obtain⟨s1,s2,s3⟩:=hw_one.mp W';obtain⟨E,Y,G,l⟩:=lW (σ:=[]) (env:=[]) IS';have sm:=IS'.same;have step:∀{b:Af}{o:HO},b∉f->H b=some o->b∉f'/\H' b=some o:=λ{b o} hb e=>gF (sm b o (by rw[bR hb];exact e));have n:Hd H f:=(hw_one.mpr ⟨r,J,pl.2.1⟩:Hw K H [a] [w] f).hd;have L:∀{g:Ab Af},(∀b∈g,b∉f)->Kp g H H':=λ{g} ap=>⟨λb hb o e=>(step (ap b hb) e).2,λb xs e=>(step (n.tup e) e).2,λb o u e=>(step (n.frz e) e).2⟩;have R1:=Reps.keep _ _ _ (L A) q;have R2:=Reps.keep _ _ _ (L p) B;have b1:∀b∈f1,b∉f':=λb hb=>by
  obtain⟨o,e⟩:=Reps.dom _ _ _ q b hb;exact(step (A b hb) e).1
 have b2:∀b∈j,b∉f':=λb hb=>by
  obtain⟨o,e⟩:=Reps.dom _ _ _ B b hb;exact(step (p b hb) e).1
 have t:Hw K H' (A1++a::A2) (ws1++w'::ws2) (f1++(f'++j)):=by
  refine⟨?_,?_,by simp only[nZ,pln.plns,QaE];exact⟨pl.1,s3,pl.2.2⟩⟩
  .rw[Qaw,Qak];exact R1.append (Reps.consR s1 R2)
  .refine Qau.mpr ⟨n1,Qau.mpr ⟨s2,Z,λx hx y hy z=>b2 y hy (z ▸ hx)⟩,λx hx y hy z=>?_⟩;rcases Qai.mp hy with hy|hy
   .exact b1 x hx (z ▸ hy)
   .exact N x hx y (Qag _ hy) z
 obtain⟨F,hF⟩:=C.ex;have v1:∀b∈E,b∉f1:=λb hb h=>by
  obtain⟨o,e⟩:=Reps.dom _ _ _ q b h;have:=l b hb;rw[bR (A b h),e]at this;cases this
 have S:∀b∈E,b∉j:=λb hb h=>by
  obtain⟨o,e⟩:=Reps.dom _ _ _ B b h;have:=l b hb;rw[bR (p b h),e]at this;cases this
 refine⟨_,t,pH (H:=Hid H (f1++(f++j))) C.same C.len hF (λb o e=>?_) (Rep.keep _ _ _ ⟨λb hb o e=>?_,λb xs e=>?_,λb o u e=>?_⟩ Y) G λb hb=>?_⟩
 .obtain⟨h1,i⟩:=gF e;have nf:b∉f:=λz=>h1 (Qag _ (Qaq _ z));obtain⟨h3,O⟩:=step nf i;rw[bR λz=>?_]
  .exact O
  .rcases Qai.mp z with z|z
   .exact h1 (Qaq _ z)
   .rcases Qai.mp z with z|z
    .exact h3 z
    .exact h1 (Qag _ (Qag _ z))
 .obtain⟨h1,i⟩:=gF e;rw[bR λz=>?_]
  .exact i
  .rcases Qai.mp z with z|z
   .exact v1 b hb z
   .rcases Qai.mp z with z|z
    .exact h1 z
    .exact S b hb z
 .rw[bR (t.hd.tup (gF e).2)];exact(gF e).2
 .rw[bR (t.hd.frz (gF e).2)];exact(gF e).2
 .by_cases h:b∈f1++(f++j)
  .exact oN h
  .have:=l b hb;rw[bR λz=>h (Qag _ (Qaq _ z))]at this;rw[bR h];exact this
def Z6E:EnvS K P H [] [] (λ_=>[]):=⟨λi o d e=>by simp at e,λi d e=>by simp at e⟩
def U5(s:Same P H)(r:Rep K true H d v f)(a:f.Nodup)(fr:∀b∈f,P b=none):SInv K P H [some v] [some (true,d)] :=
 pH (σ:=[]) (env:=[]) (Same.refl P) rfl Z6E s r a fr
end
def spG(K:Frag)(n:Nat)(g:Af->D->Ab D->Aa (D×D)):Sp:=λvs H Q _=>∃a us w ds fw fps d w',vs=.ref a::us/\ds.length=n/\Hw K H [a] [w] fw/\Reps K false (Hid H fw) ds us fps/\g a w ds=some (d,w') /\
 ∀v H',SInvG K (Hid H fw) H' [some v] [some (true,d)] [a] [w']->Q v H'
def Z7o{K:Frag}{n:Nat}{g:Af->D->Ab D->Aa (D×D)}{vs:Ab V}{H:Hp}{Q:VK}{E:XK}(h:spG K n g vs H Q E):vs.length=n+1:=by
 obtain⟨a,us,w,ds,fw,e,d,w',rfl,h1,_,b,_⟩:=h;rw[Qaf,b.length,h1]
def A3(L:Nat)(G:Af->En->Ab D->Res×Ab D)(a:Af)(w:D)(ds:Ab D):Aa (D×D):=match G a (enStart L (.fn a [] []::ds)) [w] with
 |(.ret d,[w'])=>some (d,w')
 |(.next _,[w'])=>some (.non,w')
 |_=>none
def FunD.okG{P:Aj}{w:Ak}{K:Frag}{mg:Str->Aa Ad}{base:Ah}{x e:Str}{st:Stmt}{f:Af}{fd:FuncData}{N ps:Ab Str}{k n L:Nat}{G:Af->En->Ab D->Res×Ab D}(F:FunD K x e st f fd)(S:gN N ps (aT st))(B:ps.length=n+1)(y:N.length=L)
  (o:∀(a:Af) (i:Ad) (A:Ai) (outer:Ab Env) (s:Ac) (H:Hp) (E:XK),Room k (A.deeper (envOfC e (aT st) s.heap.objs.size f i))->QSsg (uK CX0 P w K mg base N e (aT st) f i A outer s H E).nox [a] (cO st) (G a)) :
  iF P w K mg base CX0 (k+1) f fd ps (spG K n (A3 L G)):=by
 subst y;obtain⟨M,T,U,kV,J,R,an,i,ct,I,rfl,u,p⟩:=F.ex;refine Z6y u p S (λvs H Q E h=>(Z7o h).trans B.symm) λA outer s H vs Q E hr hsp=>?_;obtain⟨a,us,w,ds,fw,t,d,w',rfl,h1,W,C,j,q⟩:=hsp;have hq:=o a i A outer s H E hr;have hs:Reps K false (Hid H fw) (.fn a [] []::ds) (.ref a::us) ([]++t):=Reps.consR (by simp only[Rep];exact⟨trivial,gZ⟩) C;refine⟨_,PSs.nox hq,Hid H fw,enStart N.length (.fn a [] []::ds),[w],⟨fw,W,xI hs⟩,?_⟩;unfold A3 at j;split at j
 .rename_i d' w2 l;cases j;simp only[l];exact λv H' fp fw' W' s' r fr nd=>q v H' ⟨fw',W',U5 s' r nd fr⟩
 .rename_i O w2 l;cases j;simp only[l];exact λσ' H' ⟨fw',W',I'⟩=>q .non H' ⟨fw',W',U5 I'.same tM QaF (λb o=>(by cases o))⟩
 .cases j
structure pY(P:Program)(w:World)(K:Frag)(mg:Str->Option Value)(base:Heap)(x:Str)(k n:Nat)(g:Addr->D->List D->Option (D×D)):Prop where
 ex:∃fA fd ps,iF P w K mg base CX0 k fA fd ps (spG K n g)/\mg x=some (.ref fA)/\keepIn K (.ref fA)=true/\Binds K fd ps []
open Classical in
def vZ(A:Ab Af)(j:Nat)(g:Af->D->Ab D->Aa (D×D))(fs:En->Aa (Ab D)):En->Ab D->Aa (D×Ab D):=λenv ws=>match fs env,A[j]?,ws[j]? with
 |some (.fn a' [] []::ds),some a,some w=>if a'=a then(g a w ds).map λp=>(p.1,ws.set j p.2) else none
 |_,_,_=>none
def Z1B(h:l[j]?=some x):l=l.take j++x::l.drop (j+1):=by
 obtain⟨h1,a⟩:=Qae.mp h;subst a;rw[<- List.drop_eq_getElem_cons h1,List.take_append_drop]
def Z9v{α:Type}{l:Ab α}{j:Nat}{x y:α}(h:l[j]?=some x):l.set j y=l.take j++y::l.drop (j+1):=by
 obtain⟨h1,_⟩:=Qae.mp h;rw[List.set_eq_take_append_cons_drop,if_pos h1]
section
variable {X:Cx}{m1 m2:Bool}{rs1 rs2:Ab Nat}{A:Ab Af}{e a b c:Ag}{es rest:Ab Ag}{fs:En->Aa (Ab D)}{fb:En->Aa D}{ga:En->Ab D->Aa (D×Ab D)}{ta tb:En->Ab D->Aa (Bool×Ab D)}{pos p:Pos}{x:Str}{k n j:Nat}{g:Af->D->Ab D->Aa (D×D)}
def kU(c:pY X.prog X.w X.K X.mg X.base x k n g)(hr:Room k X.A)(B:NArgs (n+1) fs)(T:QA X m1 rs1 (e::es) fs)(Z:Gl X x:=by rfl)
  (I:nDb x:=by decide) (he:sEa e es X.env:=by rfl) (hpl:bTa pos es X.env:=by rfl) :
  QEg X A (.Call (.Name x p) (e::es) [] pos) (vZ A j g fs):=by
 classical
 obtain⟨fA,fd,ps,G,U,hk,h⟩:=c.ex;refine .mk (L2.pe_call (dvs:=[]) G hr Z U hk h .nil Z2n T I he hpl) λσ H Q ⟨P,env,ws,d,ws',⟨fp,W,IS⟩,e,q⟩=>?_;unfold vZ at e;split at e
 .rename_i C ds a w h1 R N;split at e
  .rename_i M;subst M;cases l:g C w ds with
   |none=>rw[l]at e;cases e
   |some pr =>
    obtain⟨d',w'⟩:=pr;rw[l]at e;cases e;obtain⟨F,hF⟩:=IS.ex;refine⟨env,λr=>if ∃s,env[r]?=some (some s) then F r else[],_,λi o d2 t=>?_,h1,λvs H1 fpa s r cd=>?_⟩
    .obtain⟨v,v1,Y⟩:=hF.ok i o d2 t;refine⟨v,v1,?_⟩;show Rep X.K false H d2 v (if ∃s,env[i]?=some (some s) then F i else[]);rw[if_pos ⟨_,t⟩];exact Y.same hid_le
    .have lw:A.length=ws.length:=by have:=W.rep.length;simpa using this
     have E:=W.same s;have O:=IS.grow (kM (fw:=fp) s);rw[Z1B R,Z1B N]at E;obtain⟨f,y,sub,back⟩:=Z4a (by simp[lw]) E O;simp only[Reps]at r;obtain⟨v0,us,f1,S,rfl,rfl,L,r2⟩:=r;simp only[Rep]at L;obtain⟨rfl,_⟩:=L;have ap:∀b∈S,b∉fp:=λb h hz=>by
      obtain⟨o,eo⟩:=W.dom b hz;rcases cd.1 b (Qag _ h)with z|⟨rr,_,z⟩
      .rw[eo]at z;cases z
      .by_cases hs:∃s,env[rr]?=some (some s)
       .simp only[if_pos hs]at z;obtain⟨sl,hs⟩:=hs;obtain⟨o2,t⟩:=hF.dom hs b z;rw[oN hz]at t;cases t
       .simp only[if_neg hs]at z;cases z
     have J:ds.length=n:=by have:=B.len env _ h1;simpa using this
     refine⟨C,us++[],w,ds,f,S,d',w',rfl,J,y,?_,l,λv H2 I2=>q v H2 ?_⟩
     .rw[QaP];exact Reps.keep _ _ _ ⟨λb h o e=>by rw[bR (λz=>ap b h (sub b z))];exact e,λb xs e=>by rw[bR (y.hd.tup e)];exact e,λb o u e=>by rw[bR (y.hd.frz e)];exact e⟩ (Reps.weak _ _ _ r2)
     .have:=back H2 v d' w' I2;rw[<- Z1B R,<- Z9v N]at this;exact this
  .cases e
 .cases e
def gEq(neg:Bool)(ga:En->Ab D->Aa (D×Ab D))(fb:En->Aa D):En->Ab D->Aa (Bool×Ab D):=λenv ws=>match ga env ws with
 |some (d,ws')=>match fb env with
  |some y=>(eqN 8 d y).map λk=>(if neg then !k else k,ws')
  |none=>none
 |none=>none
def Z07(I:SInvG X.K P H σ env A ws)(e:gEq neg ga fb env ws=some (bb,ws'))(q:∀H',SInvG X.K P H' σ env A ws'->Q (.bl bb) H') :
  tOp (Z9M neg X.K) (tDg X.K A ga) (tD X.K m2 rs2 fb) σ H Q:=by
 unfold gEq at e;split at e
 .rename_i d ws1 h1;split at e
  .rename_i y f;cases a:eqN 8 d y with
   |none=>rw[a]at e;cases e
   |some k =>
    rw[a]at e;cases e;refine⟨P,env,ws,d,_,I,h1,λv H1 I1=>?_⟩;have b:=I1.pop;obtain⟨F,hF⟩:=b.eok;obtain⟨fw,W,h⟩:=I1;obtain⟨fp,r,_,_⟩:=lW h;exact⟨env,F,y,hF,f,λu H2 f2 s r2 _=>⟨d,y,fp,f2,k,_,_,(r.same hid_le).same s,r2,a,q H2 (b.grow s)⟩⟩
  .cases e
 .cases e
def Z10(i:X.A.units+8<=cLine)(f:QEg X A a ga)(h:QE X m2 rs2 b fb):QTg X A (.Compare a [.NotEq] [b] pos) (gEq true ga fb) :=
 .mk (Z2j (Z5P i) f h (lC _)) λσ H Q ⟨P,env,ws,bb,ws',I,e,q⟩=>Z07 I e λH' I'=>⟨bb,rfl,q H' I'⟩
def gBl(t:En->Ab D->Aa (Bool×Ab D)):En->Ab D->Aa (D×Ab D):=λenv ws=>(t env ws).map λp=>(.bl p.1,p.2)
theorem SInvG.bl{K:Frag}{P H:Hp}{σ:L2.St}{env:En}{ws:Ab D}{k:Bool}(I:SInvG K P H σ env A ws):SInvG K P H (σ++[some (.bl k)]) (env++[some (true,.bl k)]) A ws :=
 I.push (Same.refl H) (Y5 (K:=K)) QaF λb hb=>(by cases hb)
def Z6v(e:gBl ta env ws=some (d,ws')):∃k,d=.bl k/\ta env ws=some (k,ws'):=by
 unfold gBl at e;cases h:ta env ws with
 |none=>rw[h]at e;cases e
 |some pr=>rw[h]at e;cases e;exact⟨_,rfl,rfl⟩
def Z9T(h:X.A.units+8<=cLine)(f:QEg X A a ga)(i:QE X m2 rs2 b fb):QEg X A (.Compare a [.Eq] [b] pos) (gBl (gEq false ga fb)) :=
 .mk (N0 (Z19 h) f i (lC _)) λσ H Q ⟨P,env,ws,d,ws',I,e,q⟩=>by
  obtain⟨k,rfl,j⟩:=Z6v e;exact Z07 I j λH' I'=>q _ H' I'.bl
def gB(ga:En->Ab D->Aa (D×Ab D)):En->Ab D->Aa (Bool×Ab D):=λenv ws=>match ga env ws with
 |some (.bl k,ws')=>some (k,ws')
 |_=>none
def L6(h:QEg X A e ga)(he:∀whole,isTrue e X.env whole=(do let v <- whole;standAt e.pos;holding [v] (truthy v)):=by intro _;rfl):QTg X A e (gB ga) :=
 .mk (Z5D h he) λσ H Q ⟨P,env,ws,bb,ws',I,e,q⟩=>by
  unfold gB at e;split at e
  .rename_i k ws1 h1;cases e;refine⟨P,env,ws,.bl bb,_,I,h1,λv H1 I1=>?_⟩;have a:=I1.pop;obtain⟨fw,W,b⟩:=I1;obtain⟨fp,r,_,_⟩:=lW b;rw[kF r];exact⟨bb,rfl,q H1 a⟩
  .cases e
def Z06(ta:En->Ab D->Aa (Bool×Ab D)):En->Ab D->Aa (Bool×Ab D):=λenv ws=>(ta env ws).map λp=>(!p.1,p.2)
def L7(b:QTg X A a ta):QTg X A (.UnaryOp .Not a pos) (Z06 ta):=.mk (L2.pt_not b) λσ H Q ⟨P,env,ws,bb,ws',I,e,q⟩=>by
 unfold Z06 at e;cases h:ta env ws with
 |none=>rw[h]at e;cases e
 |some pr=>rw[h]at e;cases e;exact⟨P,env,ws,pr.1,_,I,h,λH' I'=>q H' I'⟩
def QWg(X:Cx)(A:Ab Af)(e:Ag)(f:En->Ab D->Aa (Bool×Ab D)):Prop:=PW X e (Z7m X.K A f)
def QWg.mk(h:PW X e t)(hi:∀σ H Q,Z7m X.K A ta σ H Q->t σ H Q):QWg X A e ta:=λwhole pins s σ H Q I q=>h whole pins s σ H Q I (hi σ H Q q)
def QWg.qt(h:QWg X A e ta):QTg X A e ta:=h.pt
def gOr(ta tb:En->Ab D->Aa (Bool×Ab D)):En->Ab D->Aa (Bool×Ab D):=λenv ws=>match ta env ws with
 |some (true,ws')=>some (true,ws')
 |some (false,ws')=>tb env ws'
 |none=>none
def Z27(b:QTg X A a ta):QWg X A (.BoolOp .Or [a] pos) ta:=.mk (Z5y b) λσ H Q q=>q
def Z5k(h:QTg X A a ta)(f:QWg X A (.BoolOp .Or (b::rest) pos) tb):QWg X A (.BoolOp .Or (a::b::rest) pos) (gOr ta tb) :=
 .mk (Z92 h f) λσ H Q ⟨P,env,ws,bb,ws',I,e,q⟩=>by
  unfold gOr at e;split at e
  .rename_i ws1 h1;cases e;exact⟨P,env,ws,true,_,I,h1,λH' I'=>by refine Z6 ?_;exact q H' I'⟩
  .rename_i ws1 h1;exact⟨P,env,ws,false,_,I,h1,λH' I'=>by refine Z7 ?_;exact⟨P,env,ws1,bb,ws',I',e,q⟩⟩
  .cases e
end
def Z0R{K:Frag}{P H:Hp}{σ:L2.St}{env:En}{v:V}{d:D}(h:SInv K P H (σ++[some v]) (env++[some (true,d)])):∃F fp,EnvS K P H σ env F/\Rep K true H d v fp/\fp.Nodup/\(∀b∈fp,P b=none)/\∀i s,env[i]?=some (some s)->∀b∈F i,b∉fp:=by
 have p:σ.length=env.length:=by have:=h.len;simpa using this
 obtain⟨F,hF⟩:=h.ex;have e:(env++[some (true,d)])[env.length]?=some (some (true,d)):=by simp
 obtain⟨l,f,a,n⟩:=hF.own _ _ e;refine⟨F,F env.length,⟨λi o d e=>?_,λi d e=>?_⟩,a v (by rw[<- p];simp),l,f,λi s hi b hb hz=>n i s (QaM (kB hi)) (gT hi) b hz hb⟩
 .obtain⟨v,h1,q⟩:=hF.ok i o d (gT e);rw[QaH (by rw[p];exact kB e)]at h1;exact⟨v,h1,q⟩
 .obtain⟨l,f,a,n⟩:=hF.own i d (gT e);exact⟨l,f,λv hv=>a v (gT hv),λj s hj ej=>n j s hj (gT ej)⟩
theorem X5(hd:pln d=true):∀{ns a:Ab Str}{ds ds':Ab D},pln.plns ds=true->mT nm d ns ds=some (a,ds')->pln.plns ds'=true
 |[],a,[],ds',_,e=>by simp only[mT]at e;cases e;simp[pln.plns,hd]
 |n::ns,a,x::ds,ds',p,e=>by
  simp only[pln.plns,QaE]at p;simp only[mT]at e;split at e
  .cases e;simp[pln.plns,hd,p.2]
  .cases h:mT nm d ns ds with
   |none=>rw[h]at e;cases e
   |some pr =>
    rw[h]at e;cases e;simp only[pln.plns,QaE];exact⟨p.1,X5 hd p.2 h⟩
 |[],_,_::_,_,_,e=>by simp[mT]at e
 |_::_,_,[],_,_,e=>by simp[mT]at e
open Classical in
def X1(C a:Af)(i:Nat)(nm:Str)(f:En->Ab D->Aa (D×Ab D)):En->Ab D->Res×Ab D:=λenv ws=>match f env ws with
 |some (d,[.obj C' ns ds])=>if C'=C/\ns.length<100/\pln d=true/\(∃o,env[i]?=some (some (o,.fn a [] []))) then(match mT nm d ns ds with|some p=>(.next env,[.obj C p.1 p.2])|none=>(.bad,ws)) else(.bad,ws)
 |_=>(.bad,ws)
section
variable {X:Cx}{e:Ag}{f':En->Ab D->Aa (D×Ab D)}{pos p pos':Pos}{i:Nat}{x nm:Str}{C a:Af}
def Z7K(hN:X.N[i]?=some x)(hv:Vis X.env.scope x)(hc:Cls X.K C)(hn:NoAttr X.K C nm)(he:QEg X [a] e f')(hd:nDb x:=by decide)(Q:(x==("__classdict__" : Str))=false:=by decide)
  (hs:swapsWith e (some (.Attribute (.Name x p) nm pos')) pos.line X.env=pure false:=by rfl):QSg X [a] (.Assign [.Attribute (.Name x p) nm pos'] e pos) (X1 C a i nm f') :=
 .mk (yC (jG hN hv hd Q) he hs) λE σ H ⟨P,env,ws,I,q⟩=>by
  unfold X1 at q;split at q
  .rename_i d r ns ds h1;split at q
   .rename_i hC;obtain⟨rfl,hlt,Z,o0,he0⟩:=hC;cases hp:mT nm d ns ds with
    |none=>simp only[hp]at q;exact q.elim
    |some pr =>
     simp only[hp]at q;refine⟨P,env,ws,d,_,I,h1,λw H' ⟨fw,W,IS⟩=>?_⟩;obtain⟨F,t,hF,L,U,frv,B⟩:=Z0R IS;obtain⟨v0,hv1,n⟩:=hF.ok i o0 _ he0;simp only[Rep]at n;obtain⟨rfl,_⟩:=n;obtain⟨S,nd,pl⟩:=hw_one.mp W;simp only[Rep]at S;obtain⟨a',dx,vs,fp',ea,rfl,ha,hdx,R,hr⟩:=S;cases ea;have rvH:Rep X.K true H' d w t:=L.same hid_le;obtain⟨h,fp2,g1,g2,g3,O,g5,g6⟩:=X4 rvH hr R (show mT nm d ns ds=some (pr.1,pr.2) from hp)
     refine⟨.ref a,hv1,a,r,dx,_,rfl,ha,hc,hn,by rw[List.length_zip];omega,?_⟩;obtain⟨n1,n2⟩:=Qax.mp nd;obtain⟨n3,n4⟩:=Qax.mp n2;have v:dx≠a:=λz=>n1 (z ▸ Qah);have l:∀b∈t,b∉a::dx::fp':=λb hb hz=>by
      obtain⟨o,e⟩:=Rep.dom _ _ _ L b hb;rw[oN hz]at e;cases e
     have T:a∉fp2:=λz=>by
      rcases O a z with y|y
      .exact n1 (Qab _ y)
      .exact l a y Qah
     have a0:dx∉fp2:=λz=>by
      rcases O dx z with y|y
      .exact n3 y
      .exact l dx y (Qab _ Qah)
     have nd2:fp2.Nodup:=g5 (Qau.mpr ⟨n4,U,λx hx y hy z=>l y hy (Qab _ (Qab _ (z ▸ hx)))⟩);rw[g1];have Y:=Reps.keep _ _ _ (Kp.upd (o':=.ins r dx (pr.1.zip h)) ha (by intro xs z;cases z) (by intro x u z;cases z) T) g3;have W2:Hw X.K (upd H' a (.ins r dx (pr.1.zip h))) [a] [.obj r pr.1 pr.2] (a::dx::fp2):=by
      refine hw_one.mpr ⟨?_,Qax.mpr ⟨λz=>(Qad.mp z).elim (λz=>v z.symm) T,Qax.mpr ⟨a0,nd2⟩⟩,?_⟩
      .simp only[Rep];exact⟨a,dx,h,fp2,rfl,rfl,bG,by rw[aY v];exact hdx,g2,Y⟩
      .simp only[pln]at pl ⊢;exact X5 Z pl (show mT nm d ns ds=some (pr.1,pr.2) from hp)
     have f:∀{b:Af}{o:HO},b∉t->Hid H' (a::dx::fp') b=some o->Hid (upd H' a (.ins r dx (pr.1.zip h))) (a::dx::fp2) b=some o:=λ{b o} hb e=>by
      obtain⟨h1,h2⟩:=gF e;have G:b≠a:=λz=>h1 (z ▸ Qah);rw[bR λz=>?_,aY G]
      .exact h2
      .rcases Qad.mp z with z|z
       .exact G z
       .rcases Qad.mp z with z|z
        .exact h1 (z ▸ Qab _ Qah)
        .rcases O b z with y|y
         .exact h1 (Qab _ (Qab _ y))
         .exact hb y
     have A:∀b∈t,Z76 (Hid H' (a::dx::fp')) b:=L3 _ _ _ L;have kp:∀{g:Ab Af},(∀b∈g,b∉t)->Kp g (Hid H' (a::dx::fp')) (Hid (upd H' a (.ins r dx (pr.1.zip h))) (a::dx::fp2)):=λ{g} ap =>
      ⟨λb hb o e=>f (ap b hb) e,λb xs e=>f (λz=>(A b z).1 xs e) e,λb o u e=>f (λz=>(A b z).2 o u e) e⟩
     have M:σ.length=env.length:=by have:=IS.len;simpa using this
     refine q _ _ ⟨_,W2,λb o e=>f (λz=>by rw[frv b z]at e;cases e) (IS.same b o e),M,F,λj o d2 e2=>?_,λj d2 e2=>?_⟩
     .obtain⟨J,v3,v4⟩:=hF.ok j o d2 e2;exact⟨J,v3,Rep.keep _ _ _ (kp (B j _ e2)) v4⟩
     .obtain⟨c1,c2,c3,c4⟩:=hF.own j d2 e2;exact⟨c1,c2,λJ n=>Rep.keep _ _ _ (kp (B j _ e2)) (c3 J n),c4⟩
   .exact q.elim
  .exact q.elim
end
open PySem.W (hideAll hideAll_get hideAll_none funFrames_hide)
def Fly(H':Hp)(h0 h':Ah)(a:Af)(cls:Ad):Prop :=
 H' a=none/\h0.get? a=none/\∃oe vs T oT ts,h'.get? a=some oe/\oe.cls=cls/\oe.data=.fields vs/\vs[1]?=some (.ref T)/\T≠a/\h'.get? T=some oT/\oT.data=.fields ts/\ts[3]?=some .none/\H' T=none/\h0.get? T=none
def CXe(P:Aj)(w:Ak):CXT:=λouter H s E e s'=>∃a C H',e=.ref a/\s'.os=s.os/\AllBare s'.gens/\Un (frs outer) [] H H' s.heap s'.heap/\HOk P w H' s'.heap/\Fly H' s.heap s'.heap a (.ref C)/\E (.ref C) none H'
structure ExC(base:Heap)(C:Addr):Prop where
 obj:∃(bmB tl:Ab Ad) (N:Af) (nm q:Str) (bs:Ab Ad) (hdct:Bool) (sn:Ab Str) (sub:Ab Ad) (ab:Bool) (col:Aa Bool) (dd:Aa Af) (k0 k1 k2 k3 k5:Aa Ad) (newId:String) (mN:Str->Aa Ad) (B nid initId Bn inN:String) (bmN:Ab Ad),
  base.get? C=some (excClassObj nm q C N bs tl hdct sn sub ab col dd k0 k1 k2 k3 k5 newId)/\base.Ns N mN/\mN "__init__" = none/\OwnTail base bmB tl/\ExcBaseFacts B nid initId bmB/\ExcBaseFacts Bn newId inN bmN/\bmB.contains (.type Bn)=true
def spE(K:Frag)(n:Nat)(f:Ab D->Aa D):Sp:=λvs H Q E=>∃ds d fp,ds.length=n/\Reps K false H ds vs fp/\f ds=some d /\
 match d with
 | .exc C=>∀H',Same H H'->E (.ref C) none H'
 |d=>∀v H' fp',Same H H'->Rep K true H' d v fp'->(∀b∈fp',H b=none)->fp'.Nodup->Q v H'
structure ZbH(P:Program)(w:World)(K:Frag)(mg:Str->Option Value)(base:Heap)(x:Str)(dds:List D)(k n:Nat)(F':List D->Option D):Prop where
 ex:∃fA fd ps dvs ds,iF P w K mg base (CXe P w) k fA fd ps (spE K n F')/\mg x=some (.ref fA)/\keepIn K (.ref fA)=true/\Binds K fd ps ds/\Vals dvs ds/\∀H,Reps K false H dds dvs []
end PD
namespace PySem.W
open PySem PySem.Spec PySem.Calls PyProof.Rows Builtin Builtin.ObjectAttr Builtin.Getset_descriptor
structure Zcn(h:Heap)(x:Addr)(ox:Obj)(C:Addr):Prop where
 at_:h.get? x=some ox
 cls:ox.cls=.ref C
section
variable {K:Frag}{C:Af}
structure ExcK(K:Frag)(C:Addr):Prop where
 ga:findIn K (.ref C) "__getattribute__" = some (some (.builtin "BaseException.__getattribute__"))
 gn:findIn K (.ref C) "__getattr__" = some none
 cl:findIn K (.ref C) "__class__" = some (some (.builtin "object.__class__"))
 cg:specialIn K (.builtin "object.__class__") "__get__" = some (some (.builtin "getset_descriptor.__get__"))
 ct:takesIn K (.builtin "object.__class__")=some true
 mo:mroIn K C (.type "object")=some true
 mb:mroIn K C (.type "BaseException")=some true
 ic:(clsIn K C).isSome=true
end
end PySem.W
namespace PD
open PySem PySem.Spec PyProof.Rows L2
section
variable {X:Cx}{sts:Ab Stmt}
theorem PSs.nox(h:PSs X.nox sts t):PSs X sts t:=λpins s σ H D I hw =>
 Rc (h pins s σ H D (I.wish _) hw) (λ_ _ q=>q.unwish) λ_ _ z=>False.elim z
end
section
variable {K:Frag}{C:Af}{b:Bool}
def Z8p(a:PySem.W.kitMeta T=true)(hs:PySem.W.subIn K (.ref C) (.type T)=some b):PySem.W.kitOne K (.ref C) (.type T)=some b:=by
 have h1:(Value.ref C==Value.type T)=false:=Bool.eq_false_iff.mpr λq=>by cases beq_iff_eq.mp q
 unfold PySem.W.kitOne PySem.W.kitCls;rw[h1];simp[a,hs]
def Z94(X:K.In h)(l:K.lookup N=some ⟨c,d,.dict es n,sl⟩)(b:es.toList.all (λe=>match e.key with | .str _ _=>true|_=>false)=true)(hi:nsIn K N "__init__" = some none) :
  ∃m,h.Ns N m/\m "__init__" = none:=by
 have a:=X _ _ l;have f:h.Ns N (h.nsMap N):=.of_isNs (by unfold Heap.isNs;rw[a];rw[Array.all_toList]at b;exact b);refine⟨_,f,?_⟩;obtain⟨o,p,ep,j,hd,_,i⟩:=f;rw[j]at a;cases a;cases hd;rw[<- i];unfold nsIn at hi;rw[l]at hi;dsimp only at hi;split at hi
 .cases hi
 .rename_i he;unfold nsFind findBy;rw[<- Array.find?_toList,he];rfl
def Zak
  {c c1 c2:Ad}{d d1 d2:Aa Af}{es es1:Ae DictEntry}{n n1:Nat}{sl sl1 sl2:Ae (Aa Ad)}{nm1 q1:Str}{bs1 mro1:Ab Ad}{hd1:Bool}{sn1:Ab Str}{sub1:Ab Ad}{ab1:Bool}{col1:Aa Bool}{del1:Bool}
  (l:K.lookup C=some (excClassObj nm q C N bs [.ref S,.type "ValueError",.type "Exception",.type "BaseException",.type "object"] hdct sn sub ab col dd k0 k1 k2 k3 k5 "ValueError.__new__"))
  (lN:K.lookup N=some ⟨c,d,.dict es n,sl⟩) (hk:es.toList.all (λe=>match e.key with | .str _ _=>true|_=>false)=true) (hi:nsIn K N "__init__" = some none)
  (lS:K.lookup S=some ⟨c2,d2,.cls ⟨nm1,bs1,mro1,NS,q1,hd1,sn1,sub1,ab1,col1,del1⟩,sl2⟩) (lT:K.lookup NS=some ⟨c1,d1,.dict es1 n1,sl1⟩) (hk1:es1.toList.all (λe=>match e.key with | .str _ _=>true|_=>false)=true) (hi1:nsIn K NS "__init__" = some none) :
  ∀base:Ah,K.In base->ExC base C:=λbase X=>by
 obtain⟨m,b,f⟩:=Z94 X lN hk hi;obtain⟨m1,a,h1⟩:=Z94 X lT hk1 hi1;exact⟨⟨[.type "ValueError",.type "Exception",.type "BaseException",.type "object"],_,N,nm,q,bs,hdct,sn,sub,ab,col,dd,k0,k1,k2,k3,k5,_,m,"ValueError",_,_,"ValueError",_,_,X _ _ l,b,f,.own (X _ _ lS) a h1 .base,PySem.F.excBase_ValueError,PySem.F.excBase_ValueError,by decide +kernel⟩⟩
def Zar(l:K.lookup C=some ⟨c,d,.cls cd,sl⟩):(PySem.W.clsIn K C).isSome=true:=by
 unfold PySem.W.clsIn;rw[l];rfl
end
section
end
section
variable {a:Af}
def Za5(a:Af):En->Ab D->En:=λenv ws=>match ws with
 |[w]=>opn a w env
 |_=>env
end
def ZbU(K:Frag)(n:Nat)(g:Af->D->Ab D->Aa (D×D)):Sp:=λvs H Q E=>∃a us w ds fw fps d w',vs=.ref a::us/\ds.length=n/\Hw K H [a] [w] fw/\Reps K false (Hid H fw) ds us fps/\g a w ds=some (d,w') /\
 match d with
 | .exc C=>∀H' fw',Hw K H' [a] [w'] fw'->Same (Hid H fw) (Hid H' fw')->E (.ref C) none H'
 |d=>∀v H',SInvG K (Hid H fw) H' [some v] [some (true,d)] [a] [w']->Q v H'
open Classical in
def zQ{α:Type}(φ:Af->α)(z:α):α:=if h:∃r,∀a,φ a=r then h.choose else z
def Z4B{α:Type}{b:Af->α}{z r:α}(h:∀a,b a=r):zQ b z=r:=by
 have e:∃r,∀a,b a=r:=⟨r,h⟩;unfold zQ;rw[dif_pos e,<- h 0];exact(e.choose_spec 0).symm
def Z4A{α:Type}{b:Af->α}{z r:α}(e:zQ b z=r)(f:z≠r):∀a,b a=r:=by
 unfold zQ at e;split at e
 .rename_i h;intro a;rw[h.choose_spec a,e]
 .exact absurd e f
def xP:Res×Ab D->Aa (D×Ab D)
 |(.ret d,ws)=>some (d,ws)
 |_=>none
def X2(i:Nat)(f:En->Aa D)(h:Af->En->Ab D->Res×Ab D):En->Ab D->Res×Ab D:=λenv ws=>match f env with
 | some (.obj C ns ds)=>if pln (.obj C ns ds)=true then
   (match zQ (fun a=>(xP (h a (env.set i (some (true,.fn a [] []))) (ws ++ [.obj C ns ds]))).map fun p=>(p.1,p.2.take ws.length,decide (p.2.length=ws.length + 1))) none with
    |some (d,ws',true)=>(.ret d,ws')
    |_=>(.bad,ws))
  else(.bad,ws)
 |_=>(.bad,ws)
section
variable {K:Frag}{P H H':Hp}{σ:L2.St}{env:En}{w:D}{fp fw:Ab Af}{A:Ab Af}{ws:Ab D}{a:Af}
def SInvG.made{i:Nat}(I:SInvG K P H σ env A ws)(s:Same H H')(r:Rep K true H' w (.ref a) fp)(j:fp.Nodup)(fr:∀b∈fp,H b=none)(hp:pln w=true):SInvG K P H' (σ.set i (some (.ref a))) (env.set i (some (true,.fn a [] []))) (A++[a]) (ws++[w]):=by
 obtain⟨fw,W,h⟩:=I;have n:∀b∈fw,b∉fp:=λb hb hz=>by
  obtain⟨o,e⟩:=W.dom b hb;rw[fr b hz]at e;cases e
 have l:Hw K H' (A++[a]) (ws++[w]) (fw++fp):=by
  refine⟨?_,Qau.mpr ⟨W.nd,j,λx hx y hy z=>n x hx (z ▸ hy)⟩,by simp only[nZ,pln.plns,QaE];exact⟨W.pl,hp,trivial⟩⟩;rw[Qaw];exact(W.same s).rep.snoc r
 have p:Same (Hid H fw) (Hid H' (fw++fp)):=λb o e=>by
  obtain⟨h1,f⟩:=gF e;rw[bR λz=>?_]
  .exact s _ _ f
  .rcases Qai.mp z with z|z
   .exact h1 z
   .rw[fr b z]at f;cases f
 obtain⟨F,hF⟩:=h.ex;exact⟨_,l,pG i h.same h.len hF p (fp:=[]) (by simp only[Rep];exact⟨trivial,gZ⟩) QaF λb hb=>by cases hb⟩
def Hw.less{ws':Ab D}(W:Hw K H (A++[a]) (ws++[w]) fw):∃f1,Hw K H A ws f1/\∀b∈f1,b∈fw:=by
 obtain⟨j,l,pl⟩:=W;obtain⟨q,u,e,f1,f,v,h,t,rfl,p,r,o⟩:=qL j;have l2:=o.length;have i:e=[]:=List.length_eq_zero_iff.mp (by simpa using l2);subst i;rw[Qaw]at h;obtain⟨n,_⟩:=List.append_inj' h rfl;simp only[nZ,pln.plns,QaE]at pl;subst n;exact⟨f1,⟨p,(Qau.mp l).1,pl.1⟩,λb hb=>Qaq _ hb⟩
end
section
variable {X:Cx}{A:Ab Af}{e:Ag}{sts:Ab Stmt}{f:En->Aa D}{h:Af->En->Ab D->Res×Ab D}{pos pos':Pos}{i:Nat}{x:Str}
def Z3D(Q:X.N.Nodup)(hi:X.N[i]?=some x)(W:Loc X.env.scope x)(he:QE X true [] e f)(U:∀a,QSsg X (A++[a]) sts (h a))(hs:swapsWith e (some (.Name x pos')) pos.line X.env=pure false:=by rfl)(S:X.fn x=true\/X.env.scope.names.lookup x=some .local:=by first|exact .inl rfl|exact .inr rfl|assumption) :
  QSsg X A (.Assign [.Name x pos'] e pos::sts) (X2 i f h) :=
 .mk (nY (u:=λD σ H=>∃a,Z4Q X.K (A++[a]) (h a) D σ H) (M7 Q hi W he hs S) λpins s σ H E I ⟨a,q⟩=>U a pins s σ H E I q) λE σ H ⟨P,env,ws,I,q⟩=>by
  obtain⟨F,hF⟩:=I.eok;unfold X2 at q;split at q
  .rename_i C ns ds h1;split at q
   .rename_i hp;split at q
    .rename_i d ws' t;have n:=Z4A t (by simp);refine⟨env,F,_,hF,h1,λv H' fp s r c=>?_⟩;have w:=r;simp only[Rep]at w;obtain⟨a,dx,vs,fp',rfl,_⟩:=w;refine⟨a,P,_,_,I.made (i:=i) s r (c.2 rfl).1 (c.2 rfl).2 hp,?_⟩;have j:=n a;cases O:h a (env.set i (some (true,.fn a [] []))) (ws++[.obj C ns ds]) with
     |mk r1 w1 =>
      rw[O]at j;cases r1 with
      |ret d1 =>
       simp only[xP,Qav,Qbv,Prod.mk.injEq,Rl]at j;obtain⟨rfl,rfl,Z⟩:=j;intro M p fp2 fw l R T G y;obtain⟨w2,B⟩:∃w2,w1=w1.take ws.length++[w2]:=by
        have hd:(w1.drop ws.length).length=1:=by rw[QbA];omega
        obtain⟨w2,Y⟩:=List.length_eq_one_iff.mp hd;exact⟨w2,by rw[<- Y,List.take_append_drop]⟩
       simp only at l;rw[B]at l;obtain⟨f1,L,sub⟩:=Hw.less (ws':=[]) l;have J:Same (Hid p fw) (Hid p f1):=λb o e=>by
        obtain⟨k1,k2⟩:=gF e;rw[bR λz=>k1 (sub b z)];exact k2
       exact q M p fp2 f1 L (R.trans J) (T.same J) G y
      |next _=>simp[xP]at j
      |brk _=>simp[xP]at j
      |cont _=>simp[xP]at j
      |bad=>simp[xP]at j
    .exact q.elim
   .exact q.elim
  .exact q.elim
end
def Zbg{K:Frag}{C x dx:Af}{f:Hp}{σ:L2.St}{j:Str}{f1:En->Aa D}{env:En}{p:D}{E:T1}{F:Nat->Ab Af}
  (r:f x=none) (n:f dx=none) (i:dx≠x) (ok:EnvOk K f σ env F) (H:σ[0]?=some (some (.ref x))) (A:f1 env=some p) (I:Cls K C) (B:NoAttr K C j)
  (q:∀H' fp',Same f H'->Rep K true H' (.obj C [j] [p]) (.ref x) fp'->(∀b∈fp',f b=none)->fp'.Nodup->E.nx σ H') :
  Z57 K (wZ 0) (tD K true [] f1) j E σ (upd (upd f dx (.own x)) x (.ins C dx [])):=by
 have t:upd f dx (.own x) x=none:=by rw[aY (Ne.symm i)];exact r
 have o:Same f (upd (upd f dx (.own x)) x (.ins C dx [])):=(bU n).trans (bU t);refine⟨env,F,p,ok.same o,A,λy1 H1 g1 s1 r1 c1=>⟨.ref x,H,x,C,dx,[],rfl,s1 _ _ bG,I,B,by show 0<1000;decide,?_⟩⟩;show E.nx σ (upd H1 x (.ins C dx [(j,y1)]));have S1:Same f (upd H1 x (.ins C dx [(j,y1)])):=λb u e=>by
  rw[aY (bO e r)];exact s1 _ _ (o _ _ e)
 have G:H1 x=some (.ins C dx []):=s1 _ _ bG;have h:=c1.2 rfl;have l:x∉g1:=λz=>by have:=h.2 x z;rw[bG]at this;cases this
 have w:upd (upd f dx (.own x)) x (.ins C dx []) dx=some (.own x):=by rw[aY i];exact bG
 have J:=s1 _ _ w;have v:dx∉g1:=λz=>by have:=h.2 dx z;rw[w]at this;cases this
 have y:=Rep.keep _ _ _ (Kp.upd (o':=.ins C dx [(j,y1)]) G (by intro xs z;cases z) (by intro a b z;cases z) l) r1;refine q _ (x::dx::g1) S1 ?_ (λb hb=>?_) ?_
 .simp only[Rep];refine⟨x,dx,[y1],g1,rfl,rfl,bG,by rw[aY i];exact J,rfl,?_⟩;have:=Reps.consR y (gZ (K:=K) (m:=true));rw[QaP]at this;exact this
 .rcases Qad.mp hb with z|z
  .rw[z];exact r
  .rcases Qad.mp z with z|z
   .rw[z];exact n
   .exact o.free (h.2 b z)
 .exact Qax.mpr ⟨λz=>(Qad.mp z).elim (λz=>i z.symm) l,Qax.mpr ⟨v,h.1⟩⟩
section
variable {X:Cx}{x:Str}{C:Af}{p pos:Pos}
def Z9U(c:Z0x X.prog X.w X.K X.mg X.base x C k 0 F')(j:Room (k+1) X.A)(i:Gl X x:=by rfl)(f:nDb x:=by decide) :
  QE X true [] (.Call (.Name x p) [] [] pos) (λ_=>F' []):=by
 obtain⟨l,fd,ps,M,G,h,a⟩:=c.ex;refine .mk (L2.pe_make0 M G j i h a .nil Z2n f) λσ H Q ⟨env,F,d,ok,e,q⟩=>?_;exact λx dx hx hdx hne=>⟨x,dx,H,[],[],d,[],rfl,hx,hdx,hne,rfl,rfl,gZ,e,λH' fp' s' r' fr nd=>⟨rfl,q _ H' fp' s' r' ⟨λb a=>.inl (fr b a),λ_=>⟨nd,fr⟩⟩⟩⟩
end
def A8(i:Nat)(g:En->Ab D->Res×Ab D):Ab D->En->Ab D->Res×Ab D
 |[],env,ws=>(.next env,ws)
 |d::r,env,ws=>match g (env.set i (some (false,d))) ws with
  |(.next e,w)=>A8 i g r e w
  |(.cont e,w)=>A8 i g r e w
  |(.brk e,w)=>(.next e,w)
  |(.ret d,w)=>(.ret d,w)
  |(.bad,w)=>(.bad,w)
def E1(rs:Ab Nat)(src:En->Aa (Ab D))(i:Nat)(g:En->Ab D->Res×Ab D):En->Ab D->Res×Ab D:=λenv ws=>match src env with
 |some ds=>A8 i g ds (fz rs env) ws
 |none=>(.bad,ws)
theorem SInvG.lower{K:Frag}{P a H:Hp}{σ:L2.St}{env:En}{A:Ab Af}{ws:Ab D}(s:Same P a)(h:SInvG K a H σ env A ws):SInvG K P H σ env A ws:=by
 obtain⟨fw,W,b⟩:=h;exact⟨fw,W,b.lower s⟩
section
variable {X:Cx}{A:Ab Af}{iter:Ag}{body:Ab Stmt}{src:En->Aa (Ab D)}{g:En->Ab D->Res×Ab D}{pos px:Pos}{i:Nat}{x:Str}{rs:Ab Nat}
open Classical in
def Z2a(hc:X.calm=true)(hp:PassesOwn (model X.prog X.w) X.A X.env X.xe)(hN:X.N.Nodup)(hi':X.N[i]?=some x)(hx:Loc X.env.scope x)(hi:QI X (.Name x px) rs iter src)(a:QSsg X A body g)(hs:∀x,foldedSetIterable iter X.env x=pure x:=by intro _;rfl)
  (hf:X.fn x=true\/X.env.scope.names.lookup x=some .local:=by first|exact .inl rfl|exact .inr rfl|assumption) :
  QSg X A (.For (.Name x px) iter body [] pos) (E1 rs src i g):=.mk (Z5F hp hc hi (dH hN hi' hx hf) a hs) λE σ H ⟨P,env,ws,⟨fw,W,I⟩,q⟩=>by
 obtain⟨F,hF⟩:=I.ex;unfold E1 at q;split at q
 .rename_i ds h1;refine⟨env,nrm env F,ds,hF.nrm.ok.same hid_le,h1,λJ H1 fp s1 gv dm cd=>?_⟩;have cd':Cond (nrm env F) (Hid H fw) false rs fp:=⟨λb a=>(cd.1 b a).imp (λz=>hid_le.free z) id,λz=>by cases z⟩;have ap:=rL hF cd';have G:=W.same s1;have Y:∀b∈fp,b∉fw:=λb a hz=>by
   rcases cd.1 b a with z|⟨r,_,z⟩
   .obtain⟨o,e⟩:=W.dom b hz;rw[z]at e;cases e
   .obtain⟨sl,U⟩:=N5 z;rw[oC U]at z;obtain⟨o,e⟩:=hF.dom U b z;rw[oN hz]at e;cases e
  let O:Af->Prop:=λb=>∃j d,(fz rs env)[j]?=some (some (true,d))/\b∈nrm env F j
  let h:Hp:=λb=>if O b then none else Hid H1 fw b
  have B:EnvS X.K P (Hid H1 fw) σ (fz rs env) (nrm env F):=(hF.nrm.fz rs).grow (kM s1);have t:∀b,O b->(∀xs,Hid H1 fw b≠some (.tup xs))/\∀o u,Hid H1 fw b≠some (.frz o u):=λb ⟨j,d,e,a⟩=>by
   obtain⟨v,hv,r⟩:=B.ok j true d e;exact Rep.kind _ _ _ r b a
  have pn:∀{b:Af},¬O b->h b=Hid H1 fw b:=λhn=>if_neg hn;have po:∀{b:Af},O b->h b=none:=λf=>if_pos f;have sP1:Same h (Hid H1 fw):=λb o e=>by
   by_cases f:O b
   .rw[po f]at e;cases e
   .rw[pn f]at e;exact e
  have Q:Same P h:=λb o e=>by
   have f:¬O b:=λ⟨j,d,L,a⟩=>by
    have:=(B.own j d L).2.1 b a;rw[this]at e;cases e
   rw[pn f];exact kM s1 _ _ (I.same _ _ e)
  have a0:∀b∈fp,¬O b:=λb a ⟨j,d,L,hb'⟩=>ap j d L b hb' a;have y:∀{b:Af}{o:HO},¬O b->b∉fw->H1 b=some o->h b=some o:=λf hw e=>by rw[pn f,bR hw];exact e
  have kp:∀{l:Hp}{f2:Ab Af},Same h (Hid l f2)->Kp fp H1 l:=λ{l f2} s2=>⟨λb a o e=>(gF (s2 _ _ (y (a0 b a) (Y b a) e))).2,
   λb xs e=>(gF (s2 _ _ (y (λf=>(t b f).1 xs (by rw[bR (G.hd.tup e)];exact e)) (G.hd.tup e) e))).2,
   λb o u e=>(gF (s2 _ _ (y (λf=>(t b f).2 o u (by rw[bR (G.hd.frz e)];exact e)) (G.hd.frz e) e))).2⟩
  refine⟨λn k σ' H'=>n<=ds.length/\k=ds.length-n/\∃env' ws',SInvG X.K h H' σ' env' A ws'/\Z75 X.K P A E (A8 i g (ds.drop n) env' ws').1 (A8 i g (ds.drop n) env' ws').2,
   ⟨ds.length,Qa2 _,rfl,fz rs env,ws,⟨fw,G,sP1,by rw[yX];exact I.len,nrm env F,B.ok,λj d e=>?_⟩,by simpa using q⟩,?_⟩
  .obtain⟨a1,a2,a3,a4⟩:=B.own j d e;exact⟨a1,λb a=>po ⟨j,d,e,a⟩,a3,a4⟩
  .rintro n k σ' H' ⟨hn,hk,env',ws',⟨f2,W2,I'⟩,q'⟩;have gi:=gv H' (kp I'.same) n;by_cases M:n<ds.length
   .right;have hd:ds[n]?=some ds[n]:=Qaj M;obtain⟨go,hy⟩:=gi.1 _ hd;have R:ds.drop n=ds[n]::ds.drop (n+1):=List.drop_eq_getElem_cons M;rw[R]at q';refine⟨go,λσ2 l=>∃env2 ws2,SInvG X.K h l σ2 env2 A ws2/\Z75 X.K P A E (A8 i g (ds.drop (n+1)) env2 ws2).1 (A8 i g (ds.drop (n+1)) env2 ws2).2,λσ2 l ⟨env2,ws2,C,q2⟩=>⟨ds.length-(n+1),by omega,M,rfl,env2,ws2,C,q2⟩,λv l y2=>?_⟩;obtain⟨T,f3,r2,p⟩:=hy v l y2;have W3:=W2.same T;have C:=I'.grow (kM (fw:=f2) T);obtain⟨F2,Z⟩:=C.ex;have S:∀b∈f3,∃o,h b=some o:=λb a=>by
     obtain⟨o,e⟩:=dm b (p b a);exact⟨o,y (a0 b (p b a)) (Y b (p b a)) e⟩
    have r3:Rep X.K false (Hid l f2) ds[n] v f3:=Z23 W3.hd r2 λb a hz=>by
     obtain⟨o,e⟩:=S b a;have:=C.same _ _ e;rw[oN hz]at this;cases this
    have I3:SInvG X.K h l (σ'.set i (some v)) (env'.set i (some (false,ds[n]))) A ws':=⟨f2,W3,xC i C.same C.len Z (Same.refl _) r3 λj d' L b a z=>by
     have h5:=(Z.own j d' L).2.1 b a;obtain⟨o,e⟩:=S b z;rw[h5]at e;cases e⟩
    refine⟨h,_,ws',I3,?_⟩;unfold A8 at q';cases hg:g (env'.set i (some (false,ds[n]))) ws' with
    |mk r w1 =>
     rw[hg]at q';cases r with
     |next e2=>exact λσ4 H4 I4=>⟨e2,w1,I4,q'⟩
     |cont e2=>exact λσ4 H4 I4=>⟨e2,w1,I4,q'⟩
     |brk e2=>exact λσ4 H4 I4=>q' σ4 H4 (I4.lower Q)
     |ret d=>exact λv H4 fp4 fw4 W4 s4 r4 n4 nd4=>q' v H4 fp4 fw4 W4 (Q.trans s4) r4 (λb a=>Q.free (n4 b a)) nd4
     |bad=>exact q'.elim
   .left;have hn':n=ds.length:=by omega
    rw[hn',List.drop_length]at q';exact⟨gi.2 (by omega),q' σ' H' (SInvG.lower Q ⟨f2,W2,I'⟩)⟩
 .exact q.elim
end
structure Zck(P:Program)(w:World)(K:Frag)(mg:Str->Option Value)(base:Heap)(CD:Addr)(m:Str)(k n:Nat)(g:Addr->D->List D->Option (D×D)):Prop where
 ex:∃fA fd ps,iF P w K mg base (CXe P w) k fA fd ps (ZbU K n g)/\Zav K CD m fA/\Binds K fd ps []/\Cls K CD
section
variable {X:Cx}{e:Ag}{f:En->Aa D}{pos:Pos}
def Z26(f:En->Aa D):En->Res:=λenv=>match f env with
 |some _=>.next env
 |none=>.bad
def Z7O(he:QE X m rs e f)(hs:swapsWith e none pos.line X.env=pure false:=by rfl):QS X (.Expr e pos) (Z26 f):=.mk (M9 he hs) λD σ H ⟨P,env,I,q⟩=>by
 obtain⟨F,hF⟩:=I.ex;unfold Z26 at q;split at q
 .rename_i d h1;exact⟨env,F,d,hF.ok,h1,λv H' fp s r c=>q σ H' (I.grow s)⟩
 .exact q.elim
end
def Z2:Ab D->Aa (Ab Key)
 |[]=>some []
 |d::r=>match keyOf d,Z2 r with
  |some k,some ks=>some (k::ks)
  |_,_=>none
theorem yP{K:Frag}{m:Bool}{H:Hp}:∀{a:Ab D}{vs:Ab V}{fp:Ab Af}{ks:Ab Key},Z2 a=some ks->Reps K m H a vs fp->vs=ks.map kV
 |[],vs,fp,ks,h,r=>by
  cases h;simp only[Reps]at r;rw[r.1];rfl
 |d::a,vs,fp,ks,h,r=>by
  unfold Z2 at h;split at h
  .rename_i k k2 f i;cases h;simp only[Reps]at r;obtain⟨v,us,f1,j,rfl,rfl,e,b⟩:=r;rw[yP i b,tX f e];rfl
  .cases h
section
variable {m:Bool}{e a b:Ag}
def Z6H{K:Frag}{H:Hp}{ks:Ab (Ab Key)}{ds:Ab D}{v:V}{fp:Ab Af}(r:Rep K m H (.dt ks ds) v fp):∃a es ep vs fp',v=.ref a/\es.map (·.1)=ks/\es.map (·.2.2)=vs/\Zaw K H es/\Reps K m H ds vs fp'/\Rd H a (.dE es ep)/\∀b∈fp',b∈fp:=by
 simp only[Rep]at r;obtain⟨a,es,ep,vs,fp',e,j,h,f,i,hs⟩:=r;rcases hs with⟨rfl,hs⟩|⟨_,rfl,o,hs⟩
 .exact⟨a,es,ep,vs,fp',e,j,h,f,i,.inl hs,λb hb=>Qab _ hb⟩
 .exact⟨a,es,ep,vs,fp,e,j,h,f,i,.inr ⟨o,hs⟩,λb hb=>hb⟩
end
end PD
namespace L2
open PySem PySem.Spec PyProof.Rows
open Sem (wp)
section
variable {prog:Aj}{w:Ak}{A:Ai}{E:Ad->Ac->Prop}{s:Ac}{it t:Af}{i:Nat}{its:Ae Ad}
def wW(x:IsTupIter h it t i)(k:∀o,h.get? it=some o->h'.get? it=some o):IsTupIter h' it t i:=let ⟨o,e,r⟩:=x;⟨o,k o e,r⟩
def Z5T(a:IsTupIter s.heap it t i)(j:IsTup s.heap t its)(l:its[i]?=some x)(h:∀h',IsTupIter h' it t (i+1)->Heap.SameBut it s.heap h'->Q x { s with heap:=h' }):wpAny (model prog w) A (Builtin.SmallTypes.nextOf (.ref it)) Q E s:=by
 obtain⟨q,e,o,b⟩:=id a;obtain⟨p,n,_,m,f⟩:=j;unfold Builtin.SmallTypes.nextOf;refine Ra (wpAny_callSpecial?_slot (name:=Str.ofString "__next__") a.typeIs slot_tupleiter_next (Rg slot_tupleiter_next a.typeIs entry_tupleiter_next (show wpAny _ _ (field (.ref it) 0 >>= _) _ _ s from Ra (wpAny_field e b (x:=.ref t) rfl ?_)) (args_tupleiter_next _)))
 refine show wpAny _ _ (if (Value.ref t==Value.none)=true then _ else _) _ _ s from ?_
 rw[if_neg (show ¬((Value.ref t==Value.none)=true) from Qbb)]
 refine show wpAny _ _ (field (.ref it) 1 >>= _) _ _ s from Ra (wpAny_field e b (x:=.int i 0) rfl (show wpAny _ _ (seqItems? (.ref t) >>= _) _ _ s from Ra (wpAny_seqItems n f ?_)))
 simp only[QaO,l];exact Ra (wpAny_setField e b (by simp) (Rb ⟨x,rfl,Rb (h _ ⟨_,Heap.get?_update_self _ e (Obj.isFreed_of_fields (Obj.data_mapFields b _)),(Obj.cls_mapFields ..).trans o,by rw[Obj.data_mapFields b];simp[rawInt]⟩ (Heap.SameBut.update ..))⟩))
def Z8b(j:A.handled=none)(b:IsTupIter s.heap it t i)(n:IsTup s.heap t its)(p:its[i]?=none)(r:∀h' e,Heap.ExtBut it s.heap h'->(∃o,h'.get? e=some o/\o.cls=.type "StopIteration")->E (.ref e) { s with heap:=h' }):wpAny (model prog w) A (Builtin.SmallTypes.nextOf (.ref it)) Q E s:=by
 obtain⟨y,h,v,f⟩:=id b;obtain⟨u,q,_,m,l⟩:=n;unfold Builtin.SmallTypes.nextOf;refine Ra (wpAny_callSpecial?_slot (name:=Str.ofString "__next__") b.typeIs slot_tupleiter_next (Rg slot_tupleiter_next b.typeIs entry_tupleiter_next (show wpAny _ _ (field (.ref it) 0 >>= _) _ _ s from Ra (wpAny_field h f (x:=.ref t) rfl ?_)) (args_tupleiter_next _)))
 refine show wpAny _ _ (if (Value.ref t==Value.none)=true then _ else _) _ _ s from ?_
 rw[if_neg (show ¬((Value.ref t==Value.none)=true) from Qbb)]
 refine show wpAny _ _ (field (.ref it) 1 >>= _) _ _ s from Ra (wpAny_field h f (x:=.int i 0) rfl (show wpAny _ _ (seqItems? (.ref t) >>= _) _ _ s from Ra (wpAny_seqItems q l ?_)))
 simp only[QaO,p];refine Ra (wpAny_rule (Ra (wpAny_setField h f (by simp) (show wpAny _ _ (newExc (.type "StopIteration") [] >>= _) _ _ _ from Ra ?_))))
 simp only[newExc,newTuple];refine Ra (Re (Ra (m:=firstArgMember _ _) (Rh (a:=Value.none) (by first|rfl|(simp only[firstArgMember];rfl)) (Re ?_ (by size_fits)))) (by size_fits))
 simp only[raiseNew];refine Ra (wpAny_handled ?_)
 first|rw[show A.in1.handled=none from j]|rw[j]
 exact Ra (Rb (wpAny_throw (r _ _ (((Heap.SameBut.update ..).extBut.push _).push _) ⟨_,Qap _ rfl,rfl⟩)))
def Z30{z TI TO i1 i2 l1 l2:Af}{k1 k2:Nat}{xs ys:Ae Ad}{x y a b:Ad}{Q:Ad->Ac->Prop}(D:ZipApart z TI TO i1 i2 l1 l2)(f:IsZip s.heap z TI TO .none)(t:IsPair s.heap TI (.ref i1) (.ref i2))(u:IsPair s.heap TO a b)
  (h1:s.heap.IsListIter i1 l1 k1) (J:IsTupIter s.heap i2 l2 k2) (q:s.heap.IsList l1 xs) (j:IsTup s.heap l2 ys) (K:xs[k1]?=some x) (G:ys[k2]?=some y)
  (I:∀h',IsZip h' z TI TO (rawInt s.heap.objs.size)->IsPair h' TO x y->h'.IsListIter i1 l1 (k1+1)->IsTupIter h' i2 l2 (k2+1)->IsPair h' s.heap.objs.size x y->h'.objs.size=s.heap.objs.size+1->(∀c o,c≠z->c≠TO->c≠i1->c≠i2->s.heap.get? c=some o->h'.get? c=some o)->Q (.ref s.heap.objs.size) { s with heap:=h' }) :
  wpAny (model prog w) A (Builtin.«zip.__next__» ⟨[.ref z],[]⟩) (λfin s'=>∃v,fin=.done (.ret v)/\Q v s') E s:=by
 refine show wpAny _ _ (field (.ref z) 2 >>= _) _ _ _ from Ra (wpAny_field f rfl (x:=.bool false) rfl (show wpAny _ _ (field (.ref z) 3 >>= _) _ _ _ from Ra (wpAny_field f rfl (x:=.ref TI) rfl (Ra (wpAny_seqItems t rfl (show wpAny _ _ (Builtin.SmallTypes.ownedTupleIsFree (.ref z) >>= _) _ _ _ from Ra ?_))))))
 unfold Builtin.SmallTypes.ownedTupleIsFree;refine Ra (wpAny_field f rfl (x:=.none) rfl (Rb ?_));simp only[Rm];refine Ra (wpAny_rule (Ra (wpAny_field f rfl (x:=.ref TO) rfl (Ra (wpAny_setField_rec f (by simp) λg1 (z1:IsZip g1 z TI TO .ellipsis) s1=>Ra ?_)))));simp only[List.zipIdx_cons,List.zipIdx_nil,Qbc,List.forIn_nil];refine Ra (Ra (wpAny_onRaise (show wpAny _ _ (Builtin.SmallTypes.nextOf (.ref i1) >>= _) _ _ _ from Ra (wpAny_nextOf_list_item (h1.extBut s1.extBut D.i1z) (q.extBut s1.extBut D.l1z) K λg2 j1 s2=>Rb ?_))))
 have i:IsPair g2 TO a b:=s2.extBut _ _ D.TOi1 (s1.extBut _ _ D.TOz u);refine Ra (wpAny_seqItems i rfl (Ra (wpAny_updateSeq_pair i λg3 (t3:IsPair g3 TO x b) s3=>Ra (wpAny_letGo (Rb ?_)))));refine Ra (Ra (wpAny_onRaise (show wpAny _ _ (Builtin.SmallTypes.nextOf (.ref i2) >>= _) _ _ _ from Ra (Z5T (((J.extBut s1.extBut D.i2z).extBut s2.extBut D.i12.symm).extBut s3.extBut D.TOi2.symm) (((j.extBut s1.extBut D.l2z).extBut s2.extBut D.l2i1).extBut s3.extBut D.l2TO) G λg4 j2 s4=>Rb ?_))))
 have n:IsPair g4 TO x b:=s4.extBut _ _ D.TOi2 t3;refine Ra (wpAny_seqItems n rfl (Ra (wpAny_updateSeq_pair n λg5 (t5:IsPair g5 TO x y) s5=>Ra (wpAny_letGo (Rb (Rb (Ra (wpAny_seqItems t5 rfl (Ra (wpAny_newTuple ?_))))))))));have sz:g5.objs.size=s.heap.objs.size:=s5.1.trans (s4.1.trans (s3.1.trans (s2.1.trans s1.1)));have l:IsZip g5 z TI TO .ellipsis:=s5.extBut _ _ D.TOz.symm (s4.extBut _ _ D.i2z.symm (s3.extBut _ _ D.TOz.symm (s2.extBut _ _ D.i1z.symm z1)));have L:∀c o,c≠z->c≠TO->c≠i1->c≠i2->s.heap.get? c=some o->g5.get? c=some o:=λc o c1 c2 c3 c4 e=>s5.extBut _ _ c2 (s4.extBut _ _ c4 (s3.extBut _ _ c2 (s2.extBut _ _ c3 (s1.extBut _ _ c1 e))));have F:g5.IsListIter i1 l1 (k1+1):=((j1.extBut s3.extBut D.TOi1.symm).extBut s4.extBut D.i12).extBut s5.extBut D.TOi1.symm;have H:IsTupIter g5 i2 l2 (k2+1):=j2.extBut s5.extBut D.TOi2.symm;have r:z<g5.objs.size:=Qal l;refine show wpAny _ _ (Builtin.SmallTypes.ownedTupleHandOut (.ref z) (.ref g5.objs.size) >>= _) _ _ _ from Ra ?_
 unfold Builtin.SmallTypes.ownedTupleHandOut;have C:IsZip (g5.push { cls:=.type "tuple",data:=.seq #[x,y] }) z TI TO .ellipsis:=Qac _ l;refine Ra (wpAny_setField_rec C (by simp) λg7 (z7:IsZip g7 z TI TO (rawInt g5.objs.size)) s7=>wpAny_setField_rec z7 (by simp) λg8 (z8:IsZip g8 z TI TO (rawInt g5.objs.size)) s8=>?_);have h:∀c o,c≠z->g5.get? c=some o->g8.get? c=some o:=λc o c1 e=>s8.extBut _ _ c1 (s7.extBut _ _ c1 (Qac _ e));have B:IsPair g8 g5.objs.size x y:=s8.extBut _ _ (QbC r) (s7.extBut _ _ (QbC r) (Qap _ rfl));have p:g8.objs.size=g5.objs.size+1:=s8.1.trans (s7.1.trans (Qbu ..));rw[sz]at z8 B p;refine Rb ⟨_,rfl,?_⟩;show Q (.ref g5.objs.size) _;rw[sz];exact I g8 z8 (h _ _ D.TOz t5) (F.at λo e=>h _ o D.i1z e) (wW H λo e=>h _ o D.i2z e) B p λc o c1 c2 c3 c4 e=>h c o c1 (L c o c1 c2 c3 c4 e)
def Z2Y{z TI TO i1 i2 l1 l2:Af}{k1 k2:Nat}{xs ys:Ae Ad}{a b:Ad}{Q:Fin->Ac->Prop}(B:A.handled=none)(D:ZipApart z TI TO i1 i2 l1 l2)(f:IsZip s.heap z TI TO .none)(v:IsPair s.heap TI (.ref i1) (.ref i2))(y:IsPair s.heap TO a b)
  (h1:s.heap.IsListIter i1 l1 k1) (F:IsTupIter s.heap i2 l2 k2) (i:s.heap.IsList l1 xs) (t:IsTup s.heap l2 ys) (n:xs[k1]?=none\/ys[k2]?=none)
  (u:∀h' e,(∀c o,c≠z->c≠TO->c≠i1->c≠i2->s.heap.get? c=some o->h'.get? c=some o)->(∃o,h'.get? e=some o/\o.cls=.type "StopIteration")->E (.ref e) { s with heap:=h' }) :
  wpAny (model prog w) A (Builtin.«zip.__next__» ⟨[.ref z],[]⟩) Q E s:=by
 refine show wpAny _ _ (field (.ref z) 2 >>= _) _ _ _ from Ra (wpAny_field f rfl (x:=.bool false) rfl (show wpAny _ _ (field (.ref z) 3 >>= _) _ _ _ from Ra (wpAny_field f rfl (x:=.ref TI) rfl (Ra (wpAny_seqItems v rfl (show wpAny _ _ (Builtin.SmallTypes.ownedTupleIsFree (.ref z) >>= _) _ _ _ from Ra ?_))))))
 unfold Builtin.SmallTypes.ownedTupleIsFree;refine Ra (wpAny_field f rfl (x:=.none) rfl (Rb ?_));simp only[Rm];refine Ra (wpAny_rule (Ra (wpAny_field f rfl (x:=.ref TO) rfl (Ra (wpAny_setField_rec f (by simp) λg1 (z1:IsZip g1 z TI TO .ellipsis) s1=>Ra ?_)))));simp only[List.zipIdx_cons,List.zipIdx_nil,Qbc,List.forIn_nil];refine Ra (Ra (wpAny_onRaise (show wpAny _ _ (Builtin.SmallTypes.nextOf (.ref i1) >>= _) _ _ _ from Ra ?_)))
 cases l:xs[k1]? with
 |none =>
  refine wpAny_nextOf_list_end B (h1.extBut s1.extBut D.i1z) (i.extBut s1.extBut D.l1z) l λg2 e s2 ⟨oe,ho,hc⟩=>?_;have C:IsZip g2 z TI TO .ellipsis:=s2 _ _ D.i1z.symm z1;have j:e≠z:=λq=>by subst q;rw[C]at ho;cases ho;simp at hc
  exact wpAny_setField_rec C (by simp) λg3 _ s3=>u g3 e (λc o c1 _ c3 _ q=>s3.extBut _ _ c1 (s2 _ _ c3 (s1.extBut _ _ c1 q))) ⟨oe,s3.extBut _ _ j ho,hc⟩
 |some x =>
  have G:ys[k2]?=none:=by
   rcases n with h|h
   .rw[l]at h;cases h
   .exact h
  refine wpAny_nextOf_list_item (h1.extBut s1.extBut D.i1z) (i.extBut s1.extBut D.l1z) l λg2 j1 s2=>Rb ?_;have r:IsPair g2 TO a b:=s2.extBut _ _ D.TOi1 (s1.extBut _ _ D.TOz y);refine Ra (wpAny_seqItems r rfl (Ra (wpAny_updateSeq_pair r λg3 t3 s3=>Ra (wpAny_letGo (Rb ?_)))));refine Ra (Ra (wpAny_onRaise (show wpAny _ _ (Builtin.SmallTypes.nextOf (.ref i2) >>= _) _ _ _ from Ra ?_)))
  refine Z8b B (((F.extBut s1.extBut D.i2z).extBut s2.extBut D.i12.symm).extBut s3.extBut D.TOi2.symm) (((t.extBut s1.extBut D.l2z).extBut s2.extBut D.l2i1).extBut s3.extBut D.l2TO) G λg4 e s4 ⟨oe,ho,hc⟩=>?_;have p:IsZip g4 z TI TO .ellipsis:=s4 _ _ D.i2z.symm (s3.extBut _ _ D.TOz.symm (s2.extBut _ _ D.i1z.symm z1));have j:e≠z:=λq=>by subst q;rw[p]at ho;cases ho;simp at hc
  exact wpAny_setField_rec p (by simp) λg5 _ s5=>u g5 e (λc o c1 c2 c3 c4 q=>s5.extBut _ _ c1 (s4 _ _ c4 (s3.extBut _ _ c2 (s2.extBut _ _ c3 (s1.extBut _ _ c1 q))))) ⟨oe,s5.extBut _ _ j ho,hc⟩
def Z2Z{z TI TO i1 i2 l1 l2:Af}{k1 k2:Nat}{xs ys:Ae Ad}{x y a b:Ad}{Q:Aa Ad->Ac->Prop}(D:ZipApart z TI TO i1 i2 l1 l2)(f:IsZip s.heap z TI TO .none)(h:IsPair s.heap TI (.ref i1) (.ref i2))(i:IsPair s.heap TO a b)
  (h1:s.heap.IsListIter i1 l1 k1) (p:IsTupIter s.heap i2 l2 k2) (l:s.heap.IsList l1 xs) (e:IsTup s.heap l2 ys) (q:xs[k1]?=some x) (r:ys[k2]?=some y)
  (n:∀h',IsZip h' z TI TO (rawInt s.heap.objs.size)->IsPair h' TO x y->h'.IsListIter i1 l1 (k1+1)->IsTupIter h' i2 l2 (k2+1)->IsPair h' s.heap.objs.size x y->h'.objs.size=s.heap.objs.size+1->(∀c o,c≠z->c≠TO->c≠i1->c≠i2->s.heap.get? c=some o->h'.get? c=some o)->Q (some (.ref s.heap.objs.size)) { s with heap:=h' }):wpAny (model prog w) A (pyNext (.ref z)) Q E s:=by
 have j:s.TypeIs (.ref z) "zip":=⟨_,f,rfl⟩;unfold pyNext;exact Ra (wpAny_attempt (wpAny_callSpecial?_slot (name:=Str.ofString "__next__") j F.slot_zip_next (Rg F.slot_zip_next j F.entry_zip_next (Z30 D f h i h1 p l e q r λh' a1 a2 a3 a4 a5 a6 a7=>Rb (n h' a1 a2 a3 a4 a5 a6 a7)) (F.args_zip_next_1 _))))
def Z31{z TI TO i1 i2 l1 l2:Af}{k1 k2:Nat}{xs ys:Ae Ad}{a b:Ad}{Q:Aa Ad->Ac->Prop}(t:A.handled=none)(D:ZipApart z TI TO i1 i2 l1 l2)(i:IsZip s.heap z TI TO .none)(j:IsPair s.heap TI (.ref i1) (.ref i2))(l:IsPair s.heap TO a b)
  (h1:s.heap.IsListIter i1 l1 k1) (r:IsTupIter s.heap i2 l2 k2) (p:s.heap.IsList l1 xs) (h:IsTup s.heap l2 ys) (f:xs[k1]?=none\/ys[k2]?=none)
  (q:∀h',(∀c o,c≠z->c≠TO->c≠i1->c≠i2->s.heap.get? c=some o->h'.get? c=some o)->Q none { s with heap:=h' }):wpAny (model prog w) A (pyNext (.ref z)) Q E s:=by
 have n:s.TypeIs (.ref z) "zip":=⟨_,i,rfl⟩;unfold pyNext;refine Ra (wpAny_attempt (wpAny_callSpecial?_slot (name:=Str.ofString "__next__") n F.slot_zip_next (Rg F.slot_zip_next n F.entry_zip_next (Z2Y t D i j l h1 r p h f λh' e hk ⟨o,ho,hc⟩=>?_) (F.args_zip_next_1 _))));exact Ra (wpAny_isInstance (T := "StopIteration") (b:=true) ⟨o,ho,hc⟩ isSubtype_stop (Rb (q _ hk)))
end
abbrev zt1(h:Ah)(l1:Af):Ah:=h.push { cls:=.type "list_iterator",data:=.fields #[.ref l1,.int 0 0] }
abbrev zt2(h:Ah)(l1 l2:Af):Ah:=(zt1 h l1).push { cls:=.type "tuple_iterator",data:=.fields #[.ref l2,.int 0 0] }
abbrev zt3(h:Ah)(l1 l2:Af):Ah:=(zt2 h l1 l2).push { cls:=.type "tuple",data:=.seq #[.ref h.objs.size,.ref (zt1 h l1).objs.size] }
abbrev zt4(h:Ah)(l1 l2:Af):Ah:=(zt3 h l1 l2).push { cls:=.type "tuple",data:=.seq #[.none,.none] }
abbrev zt5(h:Ah)(l1 l2:Af):Ah:=(zt4 h l1 l2).push { cls:=.type "zip",data:=.fields #[.none,.bool false,.bool false,.ref (zt2 h l1 l2).objs.size,.ref (zt3 h l1 l2).objs.size] }
def IsTup.pushed(x:IsTup h a its)(o:Obj):IsTup (h.push o) a its:=let ⟨o',e,r⟩:=x;⟨o',Qac o e,r⟩
def Z4G(l1 l2:Af)(xs ys:Ae Ad):Meets (Builtin.«zip.__new__» ⟨[.type "zip",.ref l1,.ref l2],[]⟩) (λ_ R s=>s.heap.IsList l1 xs/\IsTup s.heap l2 ys/\R (.ok (.ret (.ref (zt4 s.heap l1 l2).objs.size))) { s with heap:=zt5 s.heap l1 l2 }) :=
 .of_wp λprog w A R s h=>by
  obtain⟨hp,g,d,tk,os⟩:=s;obtain⟨b,a,h⟩:=h;have f:=sub_zip;have i:Heap.IsList (Shared.heap ⟨hp,g,d,tk,os⟩) l1 xs:=b;have e:IsTup (Shared.heap ⟨hp.push { cls:=.type "list_iterator",data:=.fields #[.ref l1,.int 0 0] },g,d,tk,os⟩) l2 ys:=IsTup.pushed a _
  wp_walk using wpAny_pyIter_list i,iter_tuple e
  exact⟨_,rfl,h⟩
section
variable {prog:Aj}{w:Ak}{A:Ai}{E:Ad->Ac->Prop}{s:Ac}
def Z4f(n:s.heap.IsList l1 xs)(j:IsTup s.heap l2 ys)
  (h:∀ h',IsZip h' (s.heap.objs.size + 4) (s.heap.objs.size + 2) (s.heap.objs.size + 3) .none->IsPair h' (s.heap.objs.size + 2) (.ref s.heap.objs.size) (.ref (s.heap.objs.size + 1))->IsPair h' (s.heap.objs.size + 3) .none .none->h'.IsListIter s.heap.objs.size l1 0->IsTupIter h' (s.heap.objs.size + 1) l2 0 ->
   (∀c o,s.heap.get? c=some o->h'.get? c=some o)->Q (.ref (s.heap.objs.size+4)) { s with heap:=h' }):wpAny (model prog w) A (call (.type "zip") [.ref l1,.ref l2]) Q E s:=by
 refine callType_new F.called_zip (by decide) (F.typeCall_zip_2 _ _) (F.newCall_zip_2 _ _) (λr=>F.args_object_init_3 r _ _) F.entry_zip_new (Z4G l1 l2 xs ys) ⟨n,j,?_⟩;have b:(zt1 s.heap l1).objs.size=s.heap.objs.size+1:=Qbu ..;have e:(zt2 s.heap l1 l2).objs.size=s.heap.objs.size+2:=by rw[Qbu,b]
 have f:(zt3 s.heap l1 l2).objs.size=s.heap.objs.size+3:=by rw[Qbu,e]
 have l:(zt4 s.heap l1 l2).objs.size=s.heap.objs.size+4:=by rw[Qbu,f]
 have a:(zt5 s.heap l1 l2).get? (zt4 s.heap l1 l2).objs.size=some _:=Qap _ rfl;have i:(zt5 s.heap l1 l2).get? (zt3 s.heap l1 l2).objs.size=some _:=Qac _ (Qap _ rfl);have p:(zt5 s.heap l1 l2).get? (zt2 s.heap l1 l2).objs.size=some _:=Qac _ (Qac _ (Qap _ rfl));have p2:(zt5 s.heap l1 l2).get? (zt1 s.heap l1).objs.size=some _:=Qac _ (Qac _ (Qac _ (Qap _ rfl)));have t:(zt5 s.heap l1 l2).get? s.heap.objs.size=some _:=Qac _ (Qac _ (Qac _ (Qac _ (Qap _ rfl))));show _/\_;rw[e,f,l]at a;rw[b,e]at p;rw[f]at i;rw[b]at p2;rw[l];exact⟨⟨_,a,rfl⟩,h _ a p i ⟨_,t,rfl,rfl⟩ ⟨_,p2,rfl,rfl⟩ λc o q=>Qac _ (Qac _ (Qac _ (Qac _ (Qac _ q))))⟩
end
def SqB(t:Bool)(K:Frag)(H:Hp)(b:Af)(ys:Ab V):Prop:=match t with|true=>SqT K H b ys|false=>SqL K H b ys
def ItB(t:Bool)(h:Ah)(it b:Af)(i:Nat):Prop:=match t with|true=>IsTupIter h it b i|false=>h.IsListIter it b i
def LsB(t:Bool)(h:Ah)(b:Af)(its:Ae Ad):Prop:=match t with|true=>IsTup h b its|false=>h.IsList b its
def Z6f(x:ItB t h it b i)(k:∀o,h.get? it=some o->h'.get? it=some o):ItB t h' it b i:=by
 cases t
 .exact Heap.IsListIter.at x k
 .exact wW x k
section
variable {X:Cx}{pins:Ab (Af×Obj)}{σ:L2.St}{H:Hp}{s:Ac}{t:Bool}{a:Af}{xs ys:Ab V}
def J4(I:Inv X pins σ H s)(h:SqB t X.K H a xs):∃its:Ab Ad,Vals xs its/\LsB t s.heap a its.toArray/\xs.length<=sizeLine:=by
 cases t
 .obtain⟨i,r,p,z⟩:=I.list h;exact⟨i,r,p.isList,z⟩
 .exact I.tuple h
def Z7n(I:Inv X pins σ H s)(h:SqB t X.K H a xs)(h':SqB t X.K H a ys):xs=ys:=by
 cases t
 .exact I.list_inj h h'
 .exact I.tuple_inj h h'
end
section
variable {prog:Aj}{w:Ak}{A:Ai}{E:Ad->Ac->Prop}{s:Ac}{t:Bool}{z TI TO i1 i2 l1 l2:Af}{k1 k2:Nat}{xs ys:Ae Ad}{x y a b:Ad}
def Z79(D:ZipApart z TI TO i1 i2 l1 l2)(q:IsZip s.heap z TI TO .none)(h:IsPair s.heap TI (.ref i1) (.ref i2))(i:IsPair s.heap TO a b)
  (h1:s.heap.IsListIter i1 l1 k1) (l:ItB t s.heap i2 l2 k2) (f:s.heap.IsList l1 xs) (e:LsB t s.heap l2 ys) (n:xs[k1]?=some x) (p:ys[k2]?=some y)
  (j:∀h',IsZip h' z TI TO (rawInt s.heap.objs.size)->IsPair h' TO x y->h'.IsListIter i1 l1 (k1+1)->ItB t h' i2 l2 (k2+1)->IsPair h' s.heap.objs.size x y->h'.objs.size=s.heap.objs.size+1->(∀c o,c≠z->c≠TO->c≠i1->c≠i2->s.heap.get? c=some o->h'.get? c=some o)->Q (some (.ref s.heap.objs.size)) { s with heap:=h' }):wpAny (model prog w) A (pyNext (.ref z)) Q E s:=by
 cases t
 .exact wpAny_pyNext_zip_item D q h i h1 l f e n p j
 .exact Z2Z D q h i h1 l f e n p j
def Z7a(p:A.handled=none)(D:ZipApart z TI TO i1 i2 l1 l2)(q:IsZip s.heap z TI TO .none)(i:IsPair s.heap TI (.ref i1) (.ref i2))(j:IsPair s.heap TO a b)
  (h1:s.heap.IsListIter i1 l1 k1) (n:ItB t s.heap i2 l2 k2) (h:s.heap.IsList l1 xs) (f:LsB t s.heap l2 ys) (e:xs[k1]?=none\/ys[k2]?=none)
  (l:∀h',(∀c o,c≠z->c≠TO->c≠i1->c≠i2->s.heap.get? c=some o->h'.get? c=some o)->Q none { s with heap:=h' }):wpAny (model prog w) A (pyNext (.ref z)) Q E s:=by
 cases t
 .exact wpAny_pyNext_zip_end p D q i j h1 n h f e l
 .exact Z31 p D q i j h1 n h f e l
def Z8E(f:s.heap.IsList l1 xs)(i:LsB t s.heap l2 ys)
  (h:∀ h',IsZip h' (s.heap.objs.size + 4) (s.heap.objs.size + 2) (s.heap.objs.size + 3) .none->IsPair h' (s.heap.objs.size + 2) (.ref s.heap.objs.size) (.ref (s.heap.objs.size + 1))->IsPair h' (s.heap.objs.size + 3) .none .none->h'.IsListIter s.heap.objs.size l1 0->ItB t h' (s.heap.objs.size + 1) l2 0 ->
   (∀c o,s.heap.get? c=some o->h'.get? c=some o)->Q (.ref (s.heap.objs.size+4)) { s with heap:=h' }):wpAny (model prog w) A (call (.type "zip") [.ref l1,.ref l2]) Q E s:=by
 cases t
 .exact call_zip_2 f i λh' a b c d e _=>h h' a b c d e
 .exact Z4f f i h
end
def Zax(t:Bool)(K:Frag)(a b:Af):It :=
 ⟨fun i H => ∃ xs ys x y, SqL K H a xs /\ SqB t K H b ys /\ xs[i]? = some x /\ ys[i]? = some y,
  λi H v H'=>∃p x y,H p=none/\v=.ref p/\(∀xs,SqL K H a xs->xs[i]?=some x)/\(∀ys,SqB t K H b ys->ys[i]?=some y)/\H'=upd H p (.tup [x,y]),
  λi H=>∃xs ys,SqL K H a xs/\SqB t K H b ys/\(xs.length<=i\/ys.length<=i)⟩
def Z7d{t:Bool}{P:Aj}{w:Ak}{K:Frag}{elts:Ab Ag}{k1:Nat}{pos:Pos}(a b z TI TO i1 i2:Af)(D:ZipApart z TI TO i1 i2 a b) :
  R6 P w K (.Tuple elts k1 pos) (Zax t K a b) [z,TI,TO,i1,i2] z (λi h=>IsZip h z TI TO .none/\IsPair h TI (.ref i1) (.ref i2)/\(∃u v,IsPair h TO u v)/\h.IsListIter i1 a i/\ItB t h i2 b i) where
 mem:=by simp
 obj:=λi h st c hc=>by
  obtain⟨M,L,⟨u,v,N⟩,h1,Q⟩:=st;simp only[Qad,Qa4,or_false]at hc;rcases hc with hc|hc|hc|hc|hc
  .rw[hc];exact⟨_,M,λv q=>by cases q⟩
  .rw[hc];exact⟨_,L,λv q=>by cases q⟩
  .rw[hc];exact⟨_,N,λv q=>by cases q⟩
  .rw[hc];obtain⟨o,e,c,d⟩:=h1;exact⟨o,e,λv q=>by rw[d]at q;cases q⟩
  .rw[hc];cases t<;>(obtain⟨o,e,c,d⟩:=Q;exact⟨o,e,λv q=>by rw[d]at q;cases q⟩)
 keep:=λi h h' ⟨M,L,⟨u,v,N⟩,h1,Q⟩ k=>⟨k z (by simp) _ M,k TI (by simp) _ L,⟨u,v,k TO (by simp) _ N⟩,h1.at λo q=>k i1 (by simp) o q,Z6f Q λo q=>k i2 (by simp) o q⟩
 item:=by
  intro X hP hw Z hc i pins s σ H E I G st hg;subst hP hw Z;obtain⟨xs,ys,x,y,R,S,Y,hy⟩:=hg;obtain⟨its,rv,p,hsz⟩:=I.list R;obtain⟨W,U,p2,hsz2⟩:=J4 I S;obtain⟨u,hu,ru⟩:=rv.get Y;obtain⟨u2,hu2,ru2⟩:=U.get hy;obtain⟨M,L,⟨ua,va,N⟩,h1,Q⟩:=st;have fz:=G z (by simp);have B:=G TO (by simp);have f1:=G i1 (by simp);have C:=G i2 (by simp);refine Z79 D M L N h1 Q p.isList p2 (x:=u) (y:=u2) (by simpa using hu) (by simpa using hu2) λh' a1 a2 a3 a4 a5 a6 hk=>?_;refine⟨_,rfl,wpAny_letOwnedTupleGo_zip (s:={ s with heap:=h' }) a1 λh'' hz'' hs''=>?_⟩;have J:H s.heap.objs.size=none:=I.fresh;have lt:∀b o,s.heap.get? b=some o->b≠s.heap.objs.size:=λb o q=>QaM (Qal q);have T:∀b o,b≠z->b≠TO->b≠i1->b≠i2->s.heap.get? b=some o->h''.get? b=some o:=λb o f l j A q=>(hs''.2 b f).trans (hk b o f l j A q);have hzz:z≠s.heap.objs.size:=lt _ _ M;have O:∀b u,H b=some u->b≠z/\b≠TO/\b≠i1/\b≠i2:=λb u q=>⟨λw=>(by rw[w,fz.1]at q;cases q),λw=>(by rw[w,B.1]at q;cases q),λw=>(by rw[w,f1.1]at q;cases q),λw=>(by rw[w,C.1]at q;cases q)⟩;have F:∀c,c∉[z,TO,i1,i2]->c≠z/\c≠TO/\c≠i1/\c≠i2:=λc hc=>by simpa using hc
  refine⟨.ref s.heap.objs.size,upd H s.heap.objs.size (.tup [x,y]),?_,rfl,⟨_,x,y,J,rfl,λzs hzs=>by rw[I.list_inj hzs R];exact Y,λzs hzs=>by rw[Z7n I hzs S];exact hy,rfl⟩,
   ⟨hz'',(hs''.2 _ D.TIz).trans (hk _ _ D.TIz D.TITO D.TIi1 D.TIi2 L),⟨_,_,(hs''.2 _ D.TOz).trans a2⟩,a3.at λo q=>(hs''.2 i1 D.i1z).trans q,Z6f a4 λo q=>(hs''.2 i2 D.i2z).trans q⟩,λc hc=>?_⟩
  .refine Inv.step (s:=s) (h':=h'') (t':=s.toks) (H':=upd H s.heap.objs.size (.tup [x,y])) (g':=s.gens) (d':=s.drawn) (ch:=[z,TO,i1,i2]) I (λc hc=>?_)
    (λc o _ _ hc q _=>let ⟨f,l,j,A⟩:=F c hc;T c o f l j A q) (λc o _ _ hc q _=>let ⟨f,l,j,A⟩:=F c hc;⟨o.slots,T c o f l j A q⟩)
    (λc o _ q n=>by rw[aY (lt c o q)];exact n) (λc o hc q=>let ⟨f,l,j,A⟩:=F c hc;⟨o,T c o f l j A q⟩)
    (λc ys q=>by rw[aY (bO q J)];exact q) (λc o u q=>by rw[aY (bO q J)];exact q) (λc ps q=>⟨#[],by rw[aY (bO q J),q];simp⟩) (λm hm=>?_) (λc u q=>?_) I.bare
   .simp only[Qad,Qa4,or_false]at hc;rcases hc with hc|hc|hc|hc
    .rw[hc];exact⟨fz.2.2.2.1,fz.2.1,fz.2.2.2.2.1,fz.2.2.2.2.2⟩
    .rw[hc];exact⟨B.2.2.2.1,B.2.1,B.2.2.2.2.1,B.2.2.2.2.2⟩
    .rw[hc];exact⟨f1.2.2.2.1,f1.2.1,f1.2.2.2.2.1,f1.2.2.2.2.2⟩
    .rw[hc];exact⟨C.2.2.2.1,C.2.1,C.2.2.2.2.1,C.2.2.2.2.2⟩
   .obtain⟨o,es,ep,ho,r⟩:=hm;exact⟨o,es,ep,T _ o (Ne.symm fz.2.1) (Ne.symm B.2.1) (Ne.symm f1.2.1) (Ne.symm C.2.1) ho,r⟩
   .by_cases hb:c=s.heap.objs.size
    .subst hb;rw[bG]at q;cases q;refine⟨by show 2<=sizeLine;decide,[u,u2],.cons ru (.cons ru2 .nil),_,(hs''.2 _ (Ne.symm hzz)).trans a5,rfl,_,rfl⟩
    .rw[aY hb]at q;refine(I.hok c u q).stay (λd v hc z=>?_) (λc z=>by rw[aY (bO z J)];exact z) λc ys z=>by rw[aY (bO z J)];exact z
     rcases hc with y|y
     .rw[y]at z ⊢;obtain⟨f,l,j,A⟩:=O c u q;exact T _ _ f l j A z
     .obtain⟨f,l,j,A⟩:=O d _ y;exact T _ _ f l j A z
  .have hb':c<s.heap.objs.size:=by
    simp only[Qad,Qa4,or_false]at hc;rcases hc with hc|hc|hc|hc|hc
    .rw[hc];exact Qal M
    .rw[hc];exact Qal L
    .rw[hc];exact Qal N
    .rw[hc];obtain⟨o,q,_⟩:=h1;exact Qal q
    .rw[hc];cases t<;>(obtain⟨o,q,_⟩:=Q;exact Qal q)
   rw[aY (QaM hb')];exact(G c hc).1
 done:=by
  intro X hP hw Z hc i pins s σ H E I G st hg;subst hP hw Z;obtain⟨xs,ys,R,S,Y⟩:=hg;obtain⟨its,rv,p,hsz⟩:=I.list R;obtain⟨W,U,p2,hsz2⟩:=J4 I S;obtain⟨M,L,⟨ua,va,N⟩,h1,Q⟩:=st;have hl:=rv.length;have hl2:=U.length;have fz:=G z (by simp);have B:=G TO (by simp);have f1:=G i1 (by simp);have C:=G i2 (by simp);have a0:its.toArray[i]?=none\/W.toArray[i]?=none:=by
   rcases Y with z|z
   .left;simp;omega
   .right;simp;omega
  have F:∀c,c∉[z,TO,i1,i2]->c≠z/\c≠TO/\c≠i1/\c≠i2:=λc hc=>by simpa using hc
  have O:∀b u,H b=some u->b≠z/\b≠TO/\b≠i1/\b≠i2:=λb u q=>⟨λw=>(by rw[w,fz.1]at q;cases q),λw=>(by rw[w,B.1]at q;cases q),λw=>(by rw[w,f1.1]at q;cases q),λw=>(by rw[w,C.1]at q;cases q)⟩;refine Z7a (I.ok.hd hc) D M L N h1 Q p.isList p2 a0 λh' hk=>⟨rfl,?_⟩;refine Inv.step (s:=s) (h':=h') (t':=s.toks) (H':=H) (g':=s.gens) (d':=s.drawn) (ch:=[z,TO,i1,i2]) I (λc hc=>?_)
   (λc o _ _ hc q _=>let ⟨f,l,j,A⟩:=F c hc;hk c o f l j A q) (λc o _ _ hc q _=>let ⟨f,l,j,A⟩:=F c hc;⟨o.slots,hk c o f l j A q⟩)
   (λc o _ q n=>n) (λc o hc q=>let ⟨f,l,j,A⟩:=F c hc;⟨o,hk c o f l j A q⟩)
   (λc ys q=>q) (λc o u q=>q) (λc ps q=>⟨#[],by rw[q];simp⟩) (λm hm=>?_) (λc u q=>?_) I.bare
  .simp only[Qad,Qa4,or_false]at hc;rcases hc with hc|hc|hc|hc
   .rw[hc];exact⟨fz.2.2.2.1,fz.2.1,fz.2.2.2.2.1,fz.2.2.2.2.2⟩
   .rw[hc];exact⟨B.2.2.2.1,B.2.1,B.2.2.2.2.1,B.2.2.2.2.2⟩
   .rw[hc];exact⟨f1.2.2.2.1,f1.2.1,f1.2.2.2.2.1,f1.2.2.2.2.2⟩
   .rw[hc];exact⟨C.2.2.2.1,C.2.1,C.2.2.2.2.1,C.2.2.2.2.2⟩
  .obtain⟨o,es,ep,ho,r⟩:=hm;exact⟨o,es,ep,hk _ o (Ne.symm fz.2.1) (Ne.symm B.2.1) (Ne.symm f1.2.1) (Ne.symm C.2.1) ho,r⟩
  .refine(I.hok c u q).stay (λd v hc z=>?_) (λc z=>z) λc ys z=>z;rcases hc with y|y
   .rw[y]at z ⊢;obtain⟨f,l,j,A⟩:=O c u q;exact hk _ _ f l j A z
   .obtain⟨f,l,j,A⟩:=O d _ y;exact hk _ _ f l j A z
 self:=λ_ _ _ _ _ st h=>wpAny_pyIter_zip st.1 h
section
variable {X:Cx}{elts:Ab Ag}{k1:Nat}{tpos:Pos}
def iZB(t:Bool)(K:Frag)(ta:TA):TI:=λσ H R=>ta σ H λvs H1=>∃a b,vs=[.ref a,.ref b]/\(∃xs,SqL K H1 a xs)/\(∃ys,SqB t K H1 b ys)/\R (Zax t K a b) H1
def Zb5{t:Bool}{l l2:Ag}{ta:TA}{p pos:Pos}(y:Gl X "zip")(x:X.mg "zip" = none)(v:PA X [l,l2] ta)(hs:starEach [l,l2] X.env=[(false,eval l X.env),(false,eval l2 X.env)]:=by rfl)(i:starEach [l2] X.env=[(false,eval l2 X.env)]:=by rfl) :
  PI X (.Tuple elts k1 tpos) (.Call (.Name "zip" p) [l,l2] [] pos) (iZB t X.K ta):=by
 intro pins s σ H R I h;refine Call_ (nA I y x Z6T (PyProof.Rows.callWith_type1 (thn (v pos pins s σ H _ I h) λus s1 ⟨vs,H1,I1,r1,q1⟩=>?_) (by rw[hs,i]) (by rw[i];rfl)));obtain⟨a,b,rfl,⟨xs,n⟩,⟨ys,u⟩,q⟩:=q1;cases r1 with
 |cons r rr =>
  cases rr with
  |cons r' rr =>
   cases rr;cases r;cases r';obtain⟨its,J,pl,G⟩:=I1.list n;obtain⟨A,E,f,F⟩:=J4 I1 u;have w:a<s1.heap.objs.size:=by obtain⟨o,e,_⟩:=pl.isList;exact Qal e
   have B:b<s1.heap.objs.size:=by cases t<;>(obtain⟨o,e,_⟩:=f;exact Qal e)
   refine Z8E pl.isList f λh' hzp hTI hTO hi1 hi2 hk=>?_;refine wpAny_pyIter_zip (s:={ s1 with heap:=h' }) hzp ?_;have C:Inv X pins σ H1 { s1 with heap:=h' }:=I1.kept (t':=s1.toks) hk;refine⟨s1.heap.objs.size+4,[s1.heap.objs.size+4,s1.heap.objs.size+2,s1.heap.objs.size+3,s1.heap.objs.size,s1.heap.objs.size+1],_,_,H1,rfl,C,Z7d (t:=t) a b _ _ _ _ _ (zipApart_new w B),⟨hzp,hTI,⟨_,_,hTO⟩,hi1,hi2⟩,λc hc=>?_,q⟩;have j:s1.heap.objs.size<=c:=by
    simp only[Qad,Qa4,or_false]at hc;rcases hc with hc|hc|hc|hc|hc<;>(rw[hc];first|exact Qan _|exact Nat.le_add_right _ _)
   exact I1.fpOk j (I1.hok.fresh j)
end
end L2
namespace PD
open PySem PySem.Spec PyProof.Rows L2
section
variable {X:Cx}{m1:Bool}{rs:Ab Nat}{a b c:Ag}{fs:En->Aa (Ab D)}{pos:Pos}
def dB:Bool->Ab D->D
 |true,ys=>.tup ys
 |false,ys=>.lst ys
def Z5c{t:Bool}{K:Frag}{H:Hp}{ys:Ab D}{v:V}{fp:Ab Af}(h:Rep K false H (dB t ys) v fp):∃p vs f',v=.ref p/\SqB t K H p vs/\Reps K false H ys vs f'/\∀c∈f',c∈fp:=by
 cases t
 .obtain⟨p,vs,f,e,q,r,s⟩:=cA h;exact⟨p,vs,f,e,q,r,s⟩
 .simp only[dB,Rep]at h;obtain⟨p,vs,e,q,r⟩:=h;exact⟨p,vs,_,e,q,r,λc hc=>hc⟩
def Z6o{t:Bool}{K:Frag}{B:Hp}{xs ys:Ab D}{a b:Af}{f1 J:Ab Af}(O:Rep K false B (.lst xs) (.ref a) f1)(U:Rep K false B (dB t ys) (.ref b) J):vR K (Zax t K a b) B (nO xs ys) (f1++J):=λH k i=>by
 have M:=Rep.keep _ _ _ (k.sub λb hb=>Qaq _ hb) O;have S:=Rep.keep _ _ _ (k.sub λb hb=>Qag _ hb) U;obtain⟨p,vs,fp',e,l,G,A⟩:=cA M;cases e;obtain⟨Y,j,Q,e,h,o,n⟩:=Z5c S;cases e;refine⟨λd hd=>?_,λN=>⟨vs,j,l,h,by rw[G.length,o.length];rw[T2]at N;omega⟩⟩;rw[T3]at hd;split at hd
 .rename_i x y X P;cases hd;obtain⟨v,f,h1,W,R,_⟩:=G.get X;obtain⟨u,f',r,F,E,_⟩:=o.get P;refine⟨⟨vs,j,v,u,l,h,h1,r⟩,λx H' y=>?_⟩;obtain⟨q,w,w',hq,rfl,T,L,rfl⟩:=y;have C:=T vs l;rw[h1]at C;cases C;have I:=L j h;rw[r]at I;cases I;refine⟨bU hq,f++f',qO hq ?_,λc hc=>?_⟩
  .simp only[Reps];exact⟨v,[u],f,f',rfl,rfl,W,u,[],f',[],rfl,by simp,F,rfl,rfl⟩
  .rcases Qai.mp hc with z|z
   .exact Qaq _ (A c (R c z))
   .exact Qag _ (n c (E c z))
 .cases hd
def Z78:Ab D->Aa (Ab D)
 |[.lst xs,.tup ys]=>some (nO xs ys)
 |_=>none
def FZB:Bool->Ab D->Aa (Ab D)
 |true=>Z78
 |false=>Z0y
def fzB(e:FZB t xs=some ds):∃u v,xs=[.lst u,dB t v]/\nO u v=ds:=by
 cases t <;> (simp only [FZB, Z0y, Z78] at e; split at e; · cases e; exact ⟨_, _, rfl, rfl⟩
              . cases e)
def Z2f{t:Bool}{elts:Ab Ag}{k1:Nat}{tpos p:Pos}(B:Gl X "zip")(y:X.mg "zip" = none)(w:QA X m1 rs [a,b] fs)(hs:starEach [a,b] X.env=[(false,eval a X.env),(false,eval b X.env)]:=by rfl)(l:starEach [b] X.env=[(false,eval b X.env)]:=by rfl) :
  QI X (.Tuple elts k1 tpos) rs (.Call (.Name "zip" p) [a,b] [] pos) (sB1 (FZB t) fs) :=
 .mk (Zb5 B y w hs l) λσ H R ⟨env,F,ds,ok,e,q⟩=>by
  unfold sB1 at e;cases h1:fs env with
  |none=>simp only[h1]at e;cases e
  |some xs =>
   simp only[h1,Qa3]at e;obtain⟨I,K,rfl,rfl⟩:=fzB e
   .refine⟨env,F,_,ok,h1,λvs H' fp s r c=>?_⟩;obtain⟨v,J,f,f',rfl,n,C,rfl⟩:=Z21 r;have i:=Rep.weak _ _ _ n;have h:=Rep.weak _ _ _ C;obtain⟨p,ws,fp',rfl,o,L,x⟩:=cA n;obtain⟨A,ws',E,rfl,j,G,u⟩:=Z5c h;refine⟨p,A,rfl,⟨ws,o⟩,⟨ws',j⟩,q _ H' (f++f') s (Z6o i h) (λc hc=>?_) ⟨c.1,λz=>(by cases z)⟩⟩;rcases Qai.mp hc with z|z
    .exact Rep.dom _ _ _ i c z
    .exact Rep.dom _ _ _ h c z
end
def HD(K:Frag)(x:Str)(st:Stmt)(f:Af):Prop:=nsIn K mainGlobals x=some (some (.ref f))/\(∃oc od kV doc pm an cd ct sl,K.lookup f=some ⟨oc,od,.func (fnOf x x (dY st) (cO st) (aT st) .none kV doc pm an cd ct),sl⟩/\codeIn K cd x=true)/\keepIn K (.ref f)=true
def HU(x:Str)(st:Stmt)(ps:Ab Str):Prop:=∀(r:Ad×Ad×Ad×Aa Af×Ad×Ad) (us:Ab Ad),us.length=ps.length->bindArgs (fnOf x x (dY st) (cO st) (aT st) .none r.1 r.2.1 r.2.2.1 r.2.2.2.1 r.2.2.2.2.1 r.2.2.2.2.2) ⟨us,[]⟩=pure (ps.zip us)
def HX(P:Aj)(w:Ak)(K:Frag)(mg:Str->Aa Ad)(base:Ah):Prop:=∃hh:Ah,K.In hh/\hh.Ns mainGlobals mg
section
variable {K:Frag}{x:Str}{st:Stmt}{f:Af}{ps:Ab Str}{P:Aj}{w:Ak}{mg:Str->Aa Ad}{base:Ah}{k n:Nat}
def HD.mk{i kV b n e ct:Ad}{h an:Aa Af}{j:Ae (Aa Ad)}(a:nsIn K mainGlobals x=some (some (.ref f)))(l:K.lookup f=some ⟨i,h,.func (fnOf x x (dY st) (cO st) (aT st) .none kV b n an e ct),j⟩)
  (c:codeIn K e x=true) (k:keepIn K (.ref f)=true):HD K x st f:=⟨a,⟨i,h,kV,b,n,an,e,ct,j,l,c⟩,k⟩
def HD.use(h:HD K x st f)(Y:HX P w K mg base)(i:HU x st ps) :
  ∃fd,FunD K x x st f fd/\mg x=some (.ref f)/\keepIn K (.ref f)=true/\Binds K fd ps []:=by
 obtain⟨a,⟨o,n,kV,b,j,an,e,ct,p,l,c⟩,k⟩:=h;obtain⟨_,X,G⟩:=Y;exact⟨_,sB l c k,mg_of X G a,k,.all (i (kV,b,j,an,e,ct))⟩
def HD.c(h:HD K x st f)(Y:HX P w K mg base)
  (ok:∀fd,FunD K x x st f fd->iF P w K mg base CX0 k f fd ps (spD K n F')) (e:HU x st ps):aU P w K mg base x [] k n F':=by
 obtain⟨fd,F,a,i,b⟩:=h.use Y e;exact⟨⟨f,fd,ps,[],[],ok fd F,a,i,b,.nil,λH=>by simp only[Reps];exact⟨trivial,trivial⟩⟩⟩
end
def Z2C{K:Frag}{H:Hp}{ws:Ab D}{fw:Ab Af}(W:Hw K H [] ws fw):ws=[]/\fw=[]:=by
 have h:=W.rep;cases ws with
 |nil=>simp only[QaT,Reps]at h;exact⟨rfl,h.2⟩
 |cons w r =>
  simp only[QaT,Reps]at h;obtain⟨v,a,_,_,e,_⟩:=h;cases e
def P0:Hid H []=H:=by funext b;exact bR (by simp)
def Zb1{X:Cx}{sts:Ab Stmt}{g:En->Ab D->Res×Ab D}(h:QSsg X [] sts g):QSs X sts (λenv=>(g env []).1):=λpins s σ H E I ⟨P,env,IS,q⟩=>h pins s σ H E I (by
 refine⟨P,env,[],⟨[],⟨by simp only[QaT,Reps];exact⟨trivial,trivial⟩,QaF,rfl⟩,by rw[P0];exact IS⟩,?_⟩;have b:∀{σ':L2.St}{H':Hp}{env':En}{ws:Ab D},SInvG X.K P H' σ' env' [] ws->SInv X.K P H' σ' env':=λ⟨fw,W,a⟩=>by
  obtain⟨_,rfl⟩:=Z2C W;rw[P0]at a;exact a
 have q:Post X.K P E (g env []).1:=q
 revert q
 generalize (g env []).1=r;intro q;cases r with
 |next e'=>exact λσ' H' J=>q σ' H' (b J)
 |ret d =>
  intro v H' fp fw W s1 f i e;obtain⟨_,rfl⟩:=Z2C W;rw[P0]at s1 f;exact q v H' fp s1 f i e
 |brk e'=>exact λσ' H' J=>q σ' H' (b J)
 |cont e'=>exact λσ' H' J=>q σ' H' (b J)
 |bad=>exact q)
def gS(g:En->Res):En->Ab D->Res×Ab D:=λenv ws=>(g env,ws)
def cT{X:Cx}{A:Ab Af}{st:Stmt}{g:En->Res}(h:QS X st g):QSg X A st (gS g):=Z9O h
section
variable {K:Frag}{x:Str}{st:Stmt}{f:Af}{ps:Ab Str}{P:Aj}{w:Ak}{mg:Str->Aa Ad}{base:Ah}{k n:Nat}{C B:Af}
theorem HD.g{g:Af->D->Ab D->Aa (D×D)}(h:HD K x st f)(Y:HX P w K mg base)
  (ok:∀fd,FunD K x x st f fd->iF P w K mg base CX0 k f fd ps (spG K n g)) (e:HU x st ps):pY P w K mg base x k n g:=by
 obtain⟨fd,F,a,i,b⟩:=h.use Y e;exact⟨⟨f,fd,ps,ok fd F,a,i,b⟩⟩
def Z8A(hc:PySem.W.clsIn K B=some cd)(a:PySem.W.typeIn K (.ref B)=some (.type "type"))(hs:PySem.W.subIn K (.ref C) (.ref B)=some b)(e:PySem.W.subIn K (.ref B) (.type "BaseException")=some true):PySem.W.exmOne K (.ref C) (.ref B)=some b:=by
 unfold PySem.W.exmOne PySem.W.kitCls;rw[e];simp[hc,a,hs]
end
def TupK(K:Frag)(a:Af)(xs:Ab V):Prop:=∃(o:Obj) (its:Ae Ad) (n:Nat),K.lookup a=some o/\o.cls=.type "tuple" /\ o.data=.seq its n/\its.size<=sizeLine/\Vals xs its.toList
def TupK.sq{K:Frag}{H:Hp}{a:Af}{xs:Ab V}(h:TupK K a xs):SqT K H a xs:=.inr h
def esT(K:Frag)(P:Aj)(w:Ak):Ab (Ab Key×Ab Str)->Ab DictEntry->Prop
 |[],[]=>True
 |p::kvs,e::es=>(∃b c,e=⟨tupleKeyHash (dI P w) p.1,.ref b,.ref c⟩/\TupK K b (p.1.map kV)/\TupK K c (p.2.map V.str))/\esT K P w kvs es
 |_,_=>False
structure Z9h(K:Frag)(P:Program)(w:World)(mg:Str->Option Value)(name:Str)(kvs:List (List Key×List Str)):Prop where
 ex:∃a es n,mg name=some (.ref a)/\K.lookup a=some ⟨.type "dict",none,.dict es n,#[]⟩/\(a==sysModules)=false/\esT K P w kvs es.toList/\(kvs.map (·.1)).Nodup
def lkT(kvs:Ab (Ab Key×Ab Str))(k:Ab Key):Aa (Ab Str):=(kvs.find? λp=>decide (p.1=k)).map (·.2)
theorem Z2M{K:Frag}{P:Aj}{w:Ak}:∀{kvs:Ab (Ab Key×Ab Str)}{es:Ab DictEntry},esT K P w kvs es->∃xs:Ab (Ab Key×Af×Ad),es=xs.map (entryOfKey (tupleKind (dI P w)))/\xs.map (·.1)=kvs.map (·.1)/\(∀x∈xs,TupK K x.2.1 (x.1.map kV)) /\
  ∀k,match lkT kvs k with
   |some ss=>∃b c,atKey xs k=some (b,.ref c)/\TupK K c (ss.map V.str)
   |none=>atKey xs k=none
 |[],[],_=>⟨[],rfl,rfl,λx hx=>(by cases hx),λk=>rfl⟩
 |[],_::_,h=>h.elim
 |_::_,[],h=>h.elim
 |p::kvs,e::es,⟨⟨b,c,he,hb,hc⟩,r⟩=>by
  obtain⟨xs,i,n,l,j⟩:=Z2M r;refine⟨(p.1,b,.ref c)::xs,by rw[i,he];rfl,by simp[n],λx hx=>?_,λk=>?_⟩
  .rcases Qad.mp hx with rfl|hx
   .exact hb
   .exact l x hx
  .by_cases a:p.1=k
   .have h1:lkT (p::kvs) k=some p.2:=by simp[lkT,Qa0,a]
    have f:atKey ((p.1,b,Value.ref c)::xs) k=some (b,.ref c):=by simp[atKey,Qa0,a]
    rw[h1,f];exact⟨b,c,rfl,hc⟩
   .have h1:lkT (p::kvs) k=lkT kvs k:=by simp[lkT,Qa0,a]
    have f:atKey ((p.1,b,Value.ref c)::xs) k=atKey xs k:=by simp[atKey,Qa0,a]
    rw[h1,f];exact j k
theorem Z2t{K:Frag}{m:Bool}{H:Hp}:∀(ss:Ab Str),Reps K m H (ss.map D.str) (ss.map V.str) []
 |[]=>gZ
 |s::ss=>Reps.consR (f1:=[]) lE (Z2t ss)
def Z2X(kvs:Ab (Ab Key×Ab Str)):Ab D->Aa D
 |[.tup kd]=>match Z2 kd with
  |some k=>some (match lkT kvs k with|some ss=>.tup (ss.map D.str)|none=>.non)
  |none=>none
 |_=>none
section
variable {X:Cx}{m m1:Bool}{rs rs1:Ab Nat}{e:Ag}{fe:En->Aa D}{p apos cpos:Pos}{nm:Str}{kvs:Ab (Ab Key×Ab Str)}
def Z7U(hu:X.A.units+1<cLine)(T:Z9h X.K X.prog X.w X.mg nm kvs)(W:Gl X nm)(he:QE X m1 rs1 e fe)(J:nDb nm:=by decide)(l:attributeBase (.Name nm p) "get" X.env (eval (.Name nm p) X.env)=eval (.Name nm p) X.env:=by rfl)
  (C:((backTo cpos (starEach [e] X.env)).all (fun x=>!x.1) && (backToKw cpos (keywordEach [] X.env)).all (fun x=>x.1.isSome)
   && decide ([e].length+([]:Ab Keyword).length+(if ([]:Ab Keyword).isEmpty then 0 else 1)<30))=true:=by rfl)
  (j:(apos.endLine==cpos.line)=true:=by rfl) (i:backTo cpos (starEach [e] X.env)=[(false,eval e X.env)]:=by rfl) :
  QE X m rs (.Call (.Attribute (.Name nm p) "get" apos) [e] [] cpos) (λenv=>(aC fe aH env).bind (Z2X kvs)):=by
 intro pins s σ H Q I ⟨env,F,d,ok,ee,q⟩;obtain⟨a,es,n,U,G,lo,L,O⟩:=T.ex;obtain⟨xs,x1,Z,S,x4⟩:=Z2M L;have R:∀{s':Ac}{H':Hp},Inv X pins σ H' s'->s'.heap.DictOfH (tupleKind (dI X.prog X.w)) a xs:=λP=>⟨_,es,n,P.kIn _ _ G,⟨rfl,rfl,rfl⟩,rfl,x1,λx o=>Z9d P (S x o).sq,by rw[Z];exact O⟩;refine wpAny_Call_method l C j PySem.F.plainAttrs_dict PySem.F.slot_dict_get PySem.F.type_dict_get (thn (wM (v:=.ref a) W U rfl J pins s σ H (λv H1=>v=.ref a/\H1=H) I ⟨rfl,rfl⟩) λu s1 ⟨x,H1,I1,rx,⟨ex,eH⟩⟩=>?_);subst ex eH;obtain rfl:u=Value.ref a:=rx;have N:=R I1;refine⟨N.typeIs,λb e=>by cases e;exact⟨_,I1.kIn _ _ G,rfl⟩,?_⟩;rw[i];cases h1:fe env with
 |none=>simp only[aC,h1]at ee;cases ee
 |some dx =>
  simp only[aC,aH,h1,Qa3]at ee;cases dx with
  |tup kd =>
   simp only[Z2X]at ee;cases h:Z2 kd with
   |none=>rw[h]at ee;cases ee
   |some k =>
    rw[h]at ee;dsimp only at ee;refine Calls.callWith_builtin rfl (Calls.evalArgs_plain (Calls.spliced_cons (thn (he pins s1 σ H1 (λv H2=>∃b,v=.ref b/\SqT X.K H2 b (k.map kV)/\Same H1 H2) I1 ⟨env,F,_,ok,h1,λv H2 fp s2 r c=>?_⟩) λiv s2 ⟨y,H2,I2,ry,b,ey,hb,sm⟩=>Calls.spliced_nil ?_)))
    .simp only[Rep]at r;obtain⟨b,Y,rfl,B,M⟩:=r;rw[yP h M]at B;exact⟨b,rfl,B,s2⟩
    .subst ey;obtain rfl:iv=Value.ref b:=ry;have t:=R I2;refine call_meetsIn PySem.F.slot_dict_get t.typeIs PySem.F.entry_dict_get (PySem.F.args_dict_get_2 _ _) (meetsH_dict_get (tupleKind (dI X.prog X.w)) a b lo) ⟨tupleKind_room_in1 hu,k,xs,Z9d I2 hb,t,?_⟩;have f:=x4 k;cases o:lkT kvs k with
     |none =>
      rw[o]at f ee;have E:d=.non:=(QaI ee).symm;subst E;rw[f];exact⟨.non,H2,I2.tok _,rfl,q _ H2 [] sm tM .nil⟩
     |some ss =>
      rw[o]at f ee;have E:d=.tup (ss.map D.str):=(QaI ee).symm;subst E;obtain⟨b',c',f,hc⟩:=f;rw[f];exact⟨.ref c',H2,I2.tok _,rfl,q _ H2 [] sm (by simp only[Rep];exact⟨c',_,rfl,hc.sq,Z2t ss⟩) .nil⟩
  |_=>simp only[Z2X]at ee;cases ee
end
section
variable {g h k:En->Ab D->Res×Ab D}{g0:En->Res}{env e:En}{ws w1:Ab D}{d:D}{f:En->Aa D}{c:En->Aa Bool}{i:Nat}{r:Res×Ab D}{a:Af}{t:En->Ab D->Aa (Bool×Ab D)}
def vI(h1:g env ws=(.next e,w1))(q:k e w1=r):cG g k env ws=r:=by unfold cG;rw[h1];exact q
def Z9a(h1:g env ws=(.ret d,w1)):cG g k env ws=(.ret d,w1):=by unfold cG;rw[h1]
def Zbq(h1:g0 env=.next e)(q:k e ws=r):cG (gS g0) k env ws=r:=vI (by unfold gS;rw[h1]) q
def Zcb(h1:g0 env=.ret d):cG (gS g0) k env ws=(.ret d,ws):=Z9a (by unfold gS;rw[h1])
def iH(h1:f env=some d)(q:k (env.set i (some (true,d))) ws=r):cG (gS (bJ i f)) k env ws=r:=Zbq (by unfold bJ;rw[h1]) q
def Zcc(h1:c env=some true)(q:g env ws=r):qA (A7 c) g h env ws=r:=by unfold qA A7;rw[h1];exact q
def Zcd(h1:c env=some false)(q:h env ws=r):qA (A7 c) g h env ws=r:=by unfold qA A7;rw[h1];exact q
def gNo(h1:c env=some false)(q:k env ws=r):cG (qA (A7 c) g (gS bF)) k env ws=r:=vI (Zcd h1 rfl) q
def Zca(h1:c env=some true)(q:g env ws=(.ret d,w1)):cG (qA (A7 c) g h) k env ws=(.ret d,w1):=Z9a (Zcc h1 q)
def Zbp(h1:f env=some d):gS (bQ f) env ws=(.ret d,ws):=by unfold gS bQ;rw[h1]
def lA(h1:fs env=some (.fn a [] []::ds))(b:G a w ds=some (d,w')):vZ [a] 0 G fs env [w]=some (d,[w']):=by
 unfold vZ;rw[h1];simp[b]
def P7(h1:ga env ws=some (d,w1))(a:f env=some y)(e:eqN 8 d y=some b):gEq neg ga f env ws=some (if neg then !b else b,w1):=by
 unfold gEq;rw[h1];simp only[a,e,Qav]
def L4(h1:t env ws=some (false,w1))(q:h env w1=r):qA t g h env ws=r:=by unfold qA;rw[h1];exact q
def xT(h1:ga env ws=some (d,w1)):uX ga env ws=(.ret d,w1):=by unfold uX;rw[h1]
def Z5i(h1:ga env ws=some (d,[.obj CD ns ds]))(f:ns.length<100)(h:pln d=true)(b:env[i]?=some (some (o,.fn a [] [])))(e:mT nm d ns ds=some (ns',ds')) :
  X1 CD a i nm ga env ws=(.next env,[.obj CD ns' ds']):=by
 unfold X1;rw[h1];simp only;rw[if_pos ⟨rfl,f,h,o,b⟩,e]
def Z5j(h1:f env=some (.obj C ns ds))(hp:pln (.obj C ns ds)=true)(b:∀a,∃w',H a (env.set i (some (true,.fn a [] []))) [.obj C ns ds]=(.ret d,[w'])):X2 i f H env []=(.ret d,[]):=by
 unfold X2;rw[h1];simp only;rw[if_pos hp,Z4B (r:=some (d,[],true)) λa=>?_];obtain⟨w',e⟩:=b a;simp only[Qbq,e,xP,Qav];rfl
theorem Z2I(I:Nat->En->Prop):∀(ds:Ab D) (n:Nat) (env:En),(∀j d e,ds[j]?=some d->I (n+j) e->∃a,b (e.set i (some (false,d))) ws=(.next a,ws)/\I (n+j+1) a)->I n env->∃a,A8 i b ds env ws=(.next a,ws)/\I (n+ds.length) a
 |[],n,env,_,h0=>⟨env,rfl,h0⟩
 |d::ds,n,env,st,h0=>by
  obtain⟨a,h1,f⟩:=st 0 d env rfl h0;obtain⟨o,l,h⟩:=Z2I I ds (n+1) a (λj d' e hd hI=>by
   have:=st (j+1) d' e hd (by rw[show n+(j+1)=n+1+j by omega];exact hI);rw[show n+(j+1)+1=n+1+j+1 by omega]at this;exact this) f
  refine⟨o,?_,by rw[Qaf,show n+(ds.length+1)=n+1+ds.length by omega];exact h⟩;unfold A8;rw[h1];exact l
def W9(hs:src env=some ds)(I:Nat->En->Prop)(l:I 0 (fz rs env))(st:∀j d e,ds[j]?=some d->I j e->∃a,b (e.set i (some (false,d))) ws=(.next a,ws)/\I (j+1) a)
  (f:∀e,I ds.length e->k e ws=r):cG (E1 rs src i b) k env ws=r:=by
 obtain⟨a,h1,h⟩:=Z2I (i:=i) (b:=b) (ws:=ws) I ds 0 (fz rs env) (λj d e hd hI=>by rw[Qa7]at hI ⊢;exact st j d e hd hI) l;rw[Qa7]at h;exact vI (by unfold E1;rw[hs];exact h1) (f a h)
def Z7F(h1:g0 (enStart L ds)=.next e):runF L g0 ds=some .non:=by unfold runF;rw[h1]
def rN(h1:G a (enStart L (.fn a [] []::ds)) [w]=(.ret d,[w'])):A3 L G a w ds=some (d,w'):=by unfold A3;rw[h1]
end
end PD
namespace G
open PySem PySem.Spec PyProof.Rows L2 PD PySem.Builtin PySem.Builtin.Str PySem.StrLaws
abbrev blank:Str:=⟨#[32]⟩
def zO:(Str.ofString " ")=blank:=by decide +kernel
def mkS(l:Ab Nat):Str:=⟨l.toArray⟩
def cU(l:Ab Nat):(mkS l).cps.toList=l:=by simp[mkS]
def pF{a b:Str}(h:a.cps.toList=b.cps.toList):a=b:=ext_toList h
def Z62(s:Str):mkS s.cps.toList=s:=pF (by rw[cU])
def mC(c:Nat):Nat->Ab Nat->Ab Nat
 |_,[]=>[]
 |i,x::xs=>if x=c then i::mC c (i+1) xs else mC c (i+1) xs
def dG(c:Nat):Ab Nat->Ab (Ab Nat)
 |[]=>[[]]
 |x::xs=>if x=c then[]::dG c xs else match dG c xs with
  |h::t=>(x::h)::t
  |[]=>[[x]]
theorem D5(c:Nat):∀l,∃h t,dG c l=h::t
 |[]=>⟨[],[],rfl⟩
 |x::xs=>by
  unfold dG;split
  .exact⟨_,_,rfl⟩
  .obtain⟨h,t,e⟩:=D5 c xs;rw[e];exact⟨_,_,rfl⟩
theorem yE(x:Str)(c:Nat):∀(l:Ab Nat) (i:Nat) (st:Ae Nat×Nat),x.cps.toList.drop i=l->st.snd<=i->st.fst.size<=i ->
  (forIn (List.range' i (l.length+1)) st (occBody x ⟨#[c]⟩ x.length (x.length+1))).run.fst.toList=st.fst.toList++mC c i l
 |[],i,st,hd,hs,hz=>by
  have b:x.length<=i:=by
   have j:x.cps.size-i=0:=by simpa using congrArg List.length hd
   show x.cps.size<=i;omega
  rw[show List.range' i (([]:Ab Nat).length+1)=[i] from rfl,Qbc]
  unfold occBody;rw[if_neg (by
   intro h;have:=(subAt_one x c i).mp ⟨h.1.2,h.2⟩;rw[Qay (by simpa[Str.length]using b)]at this;cases this)]
  simp[mC]
 |y::ys,i,st,hd,hs,hz=>by
  have f:x.cps.toList[i]?=some y:=by
   have:=congrArg (λl=>l[0]?) hd;simpa using this
  have hi:i<x.length:=by
   have:=(Qae.mp f).1;simpa[Str.length]using this
  have a:x.cps.toList.drop (i+1)=ys:=by
   rw[<- List.drop_drop,hd];rfl
  rw[show List.range' i ((y::ys).length+1)=i::List.range' (i+1) (ys.length+1) from rfl,Qbc]
  unfold occBody;by_cases hc:y=c
  .subst hc;have h1:=(subAt_one x y i).mpr f;rw[if_pos ⟨⟨⟨by omega,hs⟩,h1.1⟩,h1.2⟩];have e:=yE x y ys (i+1) (st.fst.push i,i+(⟨#[y]⟩:Str).length) a (by simp[Str.length]) (by simp;omega);simp only[mC,Rm];refine Eq.trans e ?_;simp
  .rw[if_neg (by
    intro h;have:=(subAt_one x c i).mp ⟨h.1.2,h.2⟩;rw[f]at this;exact hc (QaI this))]
   have e:=yE x c ys (i+1) (st.fst,st.snd) a (by simp only;omega) (by simp only;omega);simp only[mC,hc,Rn];exact e
def Z8a(x:Str)(c:Nat):occurrences x ⟨#[c]⟩ 0 x.length (x.length+1)=mC c 0 x.cps.toList:=by
 rw[occ_eq];have h:=yE x c x.cps.toList 0 (#[],0) (by simp) (Qan _) (by simp);have e:x.cps.toList.length+1=x.length+1-0:=by simp[Str.length]
 rw[e]at h;simpa using h
theorem oA(x:Str)(c:Nat):∀(l:Ab Nat) (a b:Nat),a<=b->x.cps.toList.drop b=l ->
  ∃h t,dG c l=h::t/\partsFrom x 1 a (mC c b l)=mkS ((x.cps.toList.drop a).take (b-a)++h)::t.map mkS
 |[],a,b,hab,hd=>by
  refine⟨[],[],rfl,?_⟩;show[strSub x a x.length]=_;simp only[QaT,QaP];congr 1;apply pF;rw[strSub_toList,cU];have p:x.cps.size-b=0:=by simpa using congrArg List.length hd
  have n:x.cps.size<=b:=by omega
  rw[Qbo (by simp[Str.length]),Qbo (by simp;omega)]
 |y::ys,a,b,hab,hd=>by
  have j:x.cps.toList[b]?=some y:=by
   have:=congrArg (λl=>l[0]?) hd;simpa using this
  have e:x.cps.toList.drop (b+1)=ys:=by rw[<- List.drop_drop,hd];rfl
  by_cases hc:y=c
  .subst hc;obtain⟨h,t,f,i⟩:=oA x y ys (b+1) (b+1) (Qan _) e;refine⟨[],dG y ys,by simp[dG],?_⟩;simp only[mC,Rm,partsFrom];rw[i,f];simp only[Nat.sub_self,List.take_zero,Qbq,QaP,Qak];congr 1;apply pF;rw[strSub_toList,cU]
  .obtain⟨h,t,f,i⟩:=oA x c ys a (b+1) (by omega) e;refine⟨y::h,t,by simp[dG,hc,f],?_⟩;simp only[mC,hc,Rn];rw[i];congr 2;have q:b<x.cps.toList.length:=(Qae.mp j).1;have o:(x.cps.toList.drop a).take (b+1-a)=(x.cps.toList.drop a).take (b-a)++[y]:=by
    rw[show b+1-a=(b-a)+1 by omega];refine cY ?_;rw[List.getElem?_drop,show a+(b-a)=b by omega];exact j
   rw[o];simp
theorem E3:∀{l:Ab Nat}{i:Nat},mC c i l=[]->dG c l=[l]
 |[],i,_=>rfl
 |x::xs,i,h=>by
  unfold mC at h;split at h
  .cases h
  .rename_i a;unfold dG;rw[if_neg a,E3 h]
def Z3c(x:Str)(c:Nat)(e:x.cps.all (· < 256)=true)(hc:c<256):jE x ⟨#[c]⟩=(dG c x.cps.toList).map mkS:=by
 unfold jE;rw[Z8a];have j:¬(Builtin.Str.strKind x<Builtin.Str.strKind ⟨#[c]⟩):=by
  unfold Builtin.Str.strKind;rw[e];simp[hc]
 by_cases a:x.length<(⟨#[c]⟩:Str).length
 .have b:x.cps.toList=[]:=by
   have:x.length=0:=by simp[Str.length]at a ⊢;omega
   apply Qbl;simpa[Str.length]using this
  rw[if_pos (by simp[a]),b];simp only[dG,Qak,QaT];congr 1;apply pF;rw[b,cU]
 .rw[if_neg (by simp[a,j])];by_cases h1:(mC c 0 x.cps.toList).isEmpty=true
  .rw[if_pos h1,E3 (by simpa using h1)];simp[Z62]
  .rw[if_neg h1,partsBetween_eq];obtain⟨h,t,f,i⟩:=oA x c x.cps.toList 0 0 (Qan _) (by simp);show partsFrom x 1 0 _=_;rw[i,f];simp
def nJ(w:Ab Nat)(ws:Ab (Ab Nat)):Ab Nat:=w++ws.flatMap λv=>32::v
theorem yY:∀(ws:Ab Str) (a:Ae Nat),((ws.foldl (λacc p=>acc++blank.cps++p.cps) a).toList:Ab Nat)=nJ a.toList (ws.map λs=>s.cps.toList)
 |[],a=>by simp[nJ]
 |w::ws,a=>by
  rw[Qbs,yY ws];simp[nJ]
def Z3Z(w:Str)(ws:Ab Str):Txt.join blank (w::ws)=mkS (nJ w.cps.toList (ws.map λs=>s.cps.toList)):=by
 apply pF;rw[cU];show((List.drop 1 (w::ws)).foldl (λacc p=>acc++blank.cps++p.cps) ((w::ws).headD Str.empty).cps).toList=_;exact yY ws w.cps
theorem D4:∀{w:Ab Nat},c∉w->dG c w=[w]
 |[],_=>rfl
 |x::xs,h=>by
  have h1:x≠c:=λe=>h (by simp[e]);unfold dG;rw[if_neg h1,D4 λz=>h (Qab _ z)]
theorem xG:∀{w:Ab Nat},c∉w->dG c (w++c::r)=w::dG c r
 |[],_=>by simp[dG]
 |x::xs,h=>by
  have h1:x≠c:=λe=>h (by simp[e]);have a:=xG (r:=r) λz=>h (Qab _ z);show dG c (x::(xs++c::r))=_;rw[dG,if_neg h1,a]
theorem uV:∀{w:Ab Nat}{ws:Ab (Ab Nat)},32∉w->(∀v∈ws,32∉v)->dG 32 (nJ w ws)=w::ws
 |w,[],h,_=>by simp[nJ,D4 h]
 |w,v::vs,h,hs=>by
  have a:=uV (w:=v) (ws:=vs) (hs v Qah) λu hu=>hs u (Qab _ hu);have e:nJ w (v::vs)=w++32::nJ v vs:=by simp[nJ]
  rw[e,xG h,a]
def Wd(s:Str):Prop:=∀c∈s.cps.toList,c<128/\c≠32
instance (s:Str):Decidable (Wd s):=inferInstanceAs (Decidable (∀c∈s.cps.toList,c<128/\c≠32))
def Z8d(i:Int):Str:=Str.ofString (toString i)
def cD(m:Nat):Ab Nat:=(Nat.toDigits 10 m).map Char.toNat
def Z3R(m:Nat):(Z8d (m:Int)).cps.toList=cD m:=PySem.W.KIN.signs_num m
end G
namespace PD
open PySem PySem.Spec PyProof.Rows L2
abbrev fMo:=fI2 (λ_ j=>0<j) (λi j=>.int (i%j))
abbrev fDv:=fI2 fS (λi j=>.int (i/j))
abbrev fAd:=fI0 (λi j=>.int (i+j))
abbrev fSu:=fI0 (λi j=>.int (i-j))
abbrev fMu:=fI2 IntMulOk (λi j=>.int (i*j))
abbrev fSh:=fI2 lQ (λi j=>.int (i*2^j.toNat))
abbrev fPw:=fI2 Zay (λi j=>.int (i^j.toNat))
abbrev kI(n:Int):=fC (.int n)
abbrev kS(x:Str):=fC (.str x)
abbrev fX(a:Nat)(n:Int):=fIx (aD a) (kI n)
abbrev oF(d:D):Aa (Bool×D):=some (false,d)
abbrev oT(d:D):Aa (Bool×D):=some (true,d)
theorem FunD.k{P:Aj}{w:Ak}{K:Frag}{mg:Str->Aa Ad}{base:Ah}{x a:Str}{st:Stmt}{f:Af}{fd:FuncData}{N ps:Ab Str}{k n L:Nat}{g:En->Res}(F:FunD K x a st f fd)(S:gN N ps (aT st))
  (i:∀{b:Ad}{A:Ai}{outer:Ab Env}{s:Ac}{H:Hp}{E:XK},N.Nodup->Room k (A.deeper (envOfC a (aT st) s.heap.objs.size f b))->QSs (uK CX0 P w K mg base N a (aT st) f b A outer s H E).nox (cO st) g) (h:ps.length=n:=by rfl) (e:N.length=L:=by rfl) :
  iF P w K mg base CX0 (k+1) f fd ps (spD K n (runF L g)):=F.ok S h e λ_ _ _ _ _ _ hr=>i S.nd hr
section
variable {X:Cx}{m1:Bool}{rs rs1:Ab Nat}{e:Ag}{es:Ab Ag}{f:En->Aa D}{fs:En->Aa (Ab D)}{pos p pos':Pos}{x:Str}
def Qc(c:aU X.prog X.w X.K X.mg X.base x dds k n F')(h:QA X m1 rs1 (e::es) fs)(i:Room k X.A:=by exact Room.mono (by assumption) (by first|decide|omega))(a:NArgs na fs:=by(repeat apply NArgs.cons);exact NArgs.nil)(j:na+dds.length=n:=by rfl)(f:Gl X x:=by rfl)
  (b:nDb x:=by decide) (he:sEa e es X.env:=by rfl) (hpl:bTa pos es X.env:=by rfl) :
  QE X true [] (.Call (.Name x p) (e::es) [] pos) (aL F' dds fs):=Z9W c i a j h f b he hpl
def Qn(rs:Ab Nat):QA X false rs [] aH:=aW
def Qv(i:Nat){x:Str}(hs:∀r∈[i],r∈rs:=by simp)(e:X.N[i]?=some x:=by rfl)(b:Vis X.env.scope x:=by first|exact Or.inl rfl|exact Or.inr (Or.inl rfl)|exact Or.inr (Or.inr rfl))(hd:nDb x:=by decide)(a:(x==("__classdict__" : Str))=false:=by decide) :
  QE X false rs (.Name x pos) (aD i):=(aA i e b hd a).more hs
def Qs(i:Nat)(he:QE X true [] e f)(h:X.N.Nodup:=by assumption)(hi:X.N[i]?=some x:=by rfl)(a:Loc X.env.scope x:=by first|exact .inl rfl|exact .inr rfl)(hs:swapsWith e (some (.Name x pos')) pos.line X.env=pure false:=by rfl)(b:X.fn x=true\/X.env.scope.names.lookup x=some .local:=by first|exact .inl rfl|exact .inr rfl|assumption) :
  QS X (.Assign [.Name x pos'] e pos) (bJ i f):=Z9Q h hi a he hs b
def Qg(i:Nat)(b:X.N.Nodup:=by assumption)(hi:X.N[i]?=some x:=by rfl)(e:Loc X.env.scope x:=by first|exact .inl rfl|exact .inr rfl)(a:X.fn x=true\/X.env.scope.names.lookup x=some .local:=by first|exact .inl rfl|exact .inr rfl|assumption):QG X (.Name x pos) (gtN i):=Z7R b hi e a
end
def us0{Z:Ab Ad->Prop}(h:Z [])(us:Ab Ad)(a:us.length=0):Z us:=by rw[Qbl a];exact h
def usS{Z:Ab Ad->Prop}{n:Nat}(h:∀(a:Ad) (t:Ab Ad),t.length=n->Z (a::t))(us:Ab Ad)(b:us.length=n+1):Z us:=by
 cases us with
 |nil=>exact absurd b (by simp)
 |cons a t=>exact h a t (Nat.succ.inj b)
structure HB(J:Params->Frag)(P:Program)(w:World)(K:Frag)(mg:Str->Option Value)(base:Heap):Prop where
 k:K=J w.params
 x:HX P w K mg base
 b:K.In base
section
variable {J:Params->Frag}{P:Aj}{w:Ak}{K:Frag}{mg:Str->Aa Ad}{base:Ah}{x:Str}{k n L:Nat}{g:En->Res}{G:Af->En->Ab D->Res×Ab D}{C S:Af}
def HB.z(Y:HB J P w K mg base)(h:nsIn (J w.params) mainGlobals x=some none):mg x=none:=by
 obtain⟨e,⟨_,X,G⟩,_⟩:=Y;rw[<- e]at h;exact PySem.W.mg_none_of X G h
theorem HB.c(Y:HB J P w K mg base)(st:Stmt)(N:Ab Str)
  (i:∀{f:Af}{cdv:Ad}{A:Ai}{outer:Ab Env}{s:Ac}{H:Hp}{E:XK},N.Nodup->Room k (A.deeper (envOfC x (aT st) s.heap.objs.size f cdv))->QSs (uK CX0 P w K mg base N x (aT st) f cdv A outer s H E).nox (cO st) g)
  (hd:∃f,HD (J w.params) x st f:=by exact⟨_,by apply PD.HD.mk<;>k_is⟩) (S:gN N (N.take n) (aT st):=by exact(Ro)) (e:(N.take n).length=n:=by rfl) (a:N.length=L:=by rfl)
  (b:HU x st (N.take n):=by intro _;repeat (first|exact PD.us0 rfl|refine PD.usS λ_=>?_)):aU P w K mg base x [] (k+1) n (runF L g):=by
 obtain⟨f,h⟩:=hd;rw[<- Y.k]at h;exact h.c Y.x (λ_ F=>F.k S (λnd hr=>i nd hr) e a) b
def HB.dk(Y:HB J P w K mg base)(st:Stmt)(N:Ab Str)
  (j:∀(a:Af) {f:Af}{cdv:Ad}{A:Ai}{outer:Ab Env}{s:Ac}{H:Hp}{E:XK},N.Nodup->Room k (A.deeper (envOfC x (aT st) s.heap.objs.size f cdv))->QSsg (uK CX0 P w K mg base N x (aT st) f cdv A outer s H E).nox [a] (cO st) (G a))
  (hd:∃f,HD (J w.params) x st f:=by exact⟨_,by apply PD.HD.mk<;>k_is⟩) (S:gN N (N.take (n+1)) (aT st):=by exact(Ro)) (i:(N.take (n+1)).length=n+1:=by rfl) (b:N.length=L:=by rfl)
  (e:HU x st (N.take (n+1)):=by intro _;repeat (first|exact PD.us0 rfl|refine PD.usS λ_=>?_)):pY P w K mg base x (k+1) n (A3 L G):=by
 obtain⟨f,h⟩:=hd;rw[<- Y.k]at h;exact h.g Y.x (λ_ F=>F.okG S i b λa _ _ _ _ _ _ hr=>j a S.nd hr) e
def HDd(K:Frag)(x:Str)(st:Stmt):Prop:=∃f T oc od kV doc pm an cd ct sl ocT odT nT slT,nsIn K mainGlobals x=some (some (.ref f))/\K.lookup f=some ⟨oc,od,.func (fnOf x x (dY st) (cO st) (aT st) (.ref T) kV doc pm an cd ct),sl⟩/\codeIn K cd x=true/\keepIn K (.ref f)=true/\K.lookup T=some ⟨ocT,odT,.seq #[.none] nT,slT⟩
def HDd.mk{st:Stmt}{f T:Af}{p kV i r j ct h:Ad}{o an e:Aa Af}{q b:Ae (Aa Ad)}{n:Nat}(a:nsIn K mainGlobals x=some (some (.ref f)))(l:K.lookup f=some ⟨p,o,.func (fnOf x x (dY st) (cO st) (aT st) (.ref T) kV i r an j ct),q⟩)
  (c:codeIn K j x=true) (k:keepIn K (.ref f)=true) (d:K.lookup T=some ⟨h,e,.seq #[.none] n,b⟩):HDd K x st:=⟨f,T,p,o,kV,i,r,an,j,ct,q,h,e,n,b,a,l,c,k,d⟩
theorem HB.d(Y:HB J P w K mg base)(st:Stmt)(N:Ab Str)
  (v:∀{f:Af}{cdv:Ad}{A:Ai}{outer:Ab Env}{s:Ac}{H:Hp}{E:XK},N.Nodup->Room k (A.deeper (envOfC x (aT st) s.heap.objs.size f cdv))->QSs (uK CX0 P w K mg base N x (aT st) f cdv A outer s H E).nox (cO st) g)
  (hd:HDd (J w.params) x st:=by apply PD.HDd.mk<;>k_is) (S:gN N (N.take n) (aT st):=by exact(Ro)) (h:(N.take n).length=n:=by rfl) (u:N.length=L:=by rfl)
  (t:∀ (T:Af) (i:Ad) (q:Aa Af) (m:Nat) (j:Ae (Aa Ad)) (r:Ad × Ad × Ad × Aa Af × Ad × Ad) (s:Ac),s.heap.get? T=some ⟨i,q,.seq #[.none] m,j⟩->(∀ us:Ab Ad,us.length=n->BindsTo s (fnOf x x (dY st) (cO st) (aT st) (.ref T) r.1 r.2.1 r.2.2.1 r.2.2.2.1 r.2.2.2.2.1 r.2.2.2.2.2) ⟨us,[]⟩ ((N.take n).zip us)) /\ ∀ us:Ab Ad,us.length=n - 1->BindsTo s (fnOf x x (dY st) (cO st) (aT st) (.ref T) r.1 r.2.1 r.2.2.1 r.2.2.2.1 r.2.2.2.2.1 r.2.2.2.2.2) ⟨us,[]⟩ ((N.take n).zip (us ++ [.none]))
   := by intro T _ _ _ _ _ _ d;constructor<;>repeat (first|exact PD.us0 (.of_defaults rfl d rfl rfl rfl)|refine PD.usS λ_=>?_)):aU P w K mg base x [] (k+1) n (runF L g)/\aU P w K mg base x [.non] (k+1) n (runF L g):=by
 obtain⟨f,T,i,q,kV,e,o,an,p,ct,j,C,B,I,y,a,l,c,b,d⟩:=hd;rw[<- Y.k]at a l c b d;obtain⟨_,⟨_,X,G⟩,_⟩:=Y;have F:=FunD.k (sB (st:=st) l c b) S (λnd hr=>v nd hr) h u;have m:=mg_of X G a;exact⟨⟨⟨f,_,_,[],[],F,m,b,λs us ks hl=>by rw[QaP]at hl ⊢;exact(t T _ _ _ _ (kV,e,o,an,p,ct) s (ks _ _ d)).1 us (hl.trans h),.nil,λH=>by simp only[Reps];exact⟨trivial,trivial⟩⟩⟩,
  ⟨⟨f,_,_,[.non],[.none],F,m,b,λs us ks hl=>(t T _ _ _ _ (kV,e,o,an,p,ct) s (ks _ _ d)).2 us (by rw[Qam,h]at hl;exact Nat.eq_sub_of_add_eq hl),.cons rfl .nil,λH=>by simp only[Reps];exact⟨.non,[],[],[],rfl,rfl,tM,rfl,rfl⟩⟩⟩⟩
def HCl(K:Frag)(x:Str)(C:Af)(st:Stmt)(q:Str):Prop:=nsIn K mainGlobals x=some (some (.ref C))/\(∃f oc od kV doc pm an cd ct sl,PySem.W.findIn K (.ref C) "__init__" = some (some (.ref f))/\K.lookup f=some ⟨oc,od,.func (fnOf "__init__" q (dY st) (cO st) (aT st) .none kV doc pm an cd ct),sl⟩/\codeIn K cd q=true/\keepIn K (.ref f)=true/\PySem.W.isFn K (.ref f)=true)/\Cls K C/\PySem.W.makesIn K C=true/\keepIn K (.ref C)=true
def HCl.mk{q:Str}{st:Stmt}{f:Af}{t kV o v p ct:Ad}{r an:Aa Af}{u:Ae (Aa Ad)}(a:nsIn K mainGlobals x=some (some (.ref C)))(b:PySem.W.findIn K (.ref C) "__init__" = some (some (.ref f)))(l:K.lookup f=some ⟨t,r,.func (fnOf "__init__" q (dY st) (cO st) (aT st) .none kV o v an p ct),u⟩)
  (c:codeIn K p q=true) (d:keepIn K (.ref f)=true) (e:PySem.W.isFn K (.ref f)=true) (g:PySem.W.plainGet K C Str.empty=true) (h:PySem.W.hasDictIn K C=true) (i:PySem.W.plainOver K C=true) (j:PySem.W.findIn K (.ref C) "__setattr__" = some (some (.builtin "object.__setattr__"))) (m:PySem.W.makesIn K C=true) (n:keepIn K (.ref C)=true):HCl K x C st q:=⟨a,⟨f,t,r,kV,o,v,an,p,ct,u,b,l,c,d,e⟩,⟨g,h,i,j⟩,m,n⟩
def HCl.cl{q:Str}{st:Stmt}(h:HCl K x C st q):Cls K C:=h.2.2.1
theorem HCl.m{q:Str}{st:Stmt}{ps:Ab Str}{i:Ab D->Aa D}(h:HCl K x C st q)(Y:HX P w K mg base)
  (ok:∀f fd,FunD K "__init__" q st f fd->iF P w K mg base CX0 k f fd ps (spI K C n i)) (p:∀(r:Ad×Ad×Ad×Aa Af×Ad×Ad) (us:Ab Ad),us.length=ps.length->bindArgs (fnOf "__init__" q (dY st) (cO st) (aT st) .none r.1 r.2.1 r.2.2.1 r.2.2.2.1 r.2.2.2.2.1 r.2.2.2.2.2) ⟨us,[]⟩=pure (ps.zip us):=by intro _;repeat (first|exact PD.us0 rfl|refine PD.usS λ_=>?_)):Z0x P w K mg base x C k n i:=by
 obtain⟨a,⟨f,v,u,kV,j,t,an,o,ct,y,b,l,c,d,e⟩,z,m,q⟩:=h;obtain⟨_,X,G⟩:=Y;exact⟨⟨f,_,_,⟨m,b,e,q⟩,ok f _ (sB l c d),mg_of X G a,.all (p (kV,j,t,an,o,ct))⟩⟩
def HMe(K:Frag)(x:Str)(C:Af)(st:Stmt)(q:Str):Prop:=∃f oc od kV doc pm an cd ct sl,PySem.W.findIn K (.ref C) x=some (some (.ref f))/\K.lookup f=some ⟨oc,od,.func (fnOf x q (dY st) (cO st) (aT st) .none kV doc pm an cd ct),sl⟩/\codeIn K cd q=true/\keepIn K (.ref f)=true/\PySem.W.isFn K (.ref f)=true
def HMe.mk{q:Str}{st:Stmt}{f:Af}{j kV a o h ct:Ad}{i an:Aa Af}{n:Ae (Aa Ad)}(b:PySem.W.findIn K (.ref C) x=some (some (.ref f)))(l:K.lookup f=some ⟨j,i,.func (fnOf x q (dY st) (cO st) (aT st) .none kV a o an h ct),n⟩)
  (c:codeIn K h q=true) (d:keepIn K (.ref f)=true) (e:PySem.W.isFn K (.ref f)=true):HMe K x C st q:=⟨f,j,i,kV,a,o,an,h,ct,n,b,l,c,d,e⟩
theorem HB.law{f:Af}{b:Ab D->Aa D}{y:Str}{l:Aj}(X:K.In base)(G:base.Ns mainGlobals mg){st:Stmt}(hd:∃f,HD K "law" st f)(n:mg "law" = some (.ref f))
  (o:∀(r:Ad×Ad×Ad×Aa Af×Ad×Ad) (u:Ad),bindArgs (fnOf "law" "law" (dY st) (cO st) (aT st) .none r.1 r.2.1 r.2.2.1 r.2.2.2.1 r.2.2.2.2.1 r.2.2.2.2.2) ⟨[u],[]⟩=pure [(y,u)]) (R:(Ab D->Aa D)->Prop) (r:R b)
  (ok:∀fd,FunD K "law" "law" st f fd->∀base:Ah,K.In base->base.Ns mainGlobals mg->iF l w K mg base CX0 k f fd [y] (spD K 1 b)) :
  ∃(fd:FuncData) (m:Ab D->Aa D),(∀(s:Ac) (u:Ad),BindsTo s fd ⟨[u],[]⟩ [(y,u)])/\R m/\∀base:Ah,K.In base->base.Ns mainGlobals mg->iF l w K mg base CX0 k f fd [y] (spD K 1 m):=by
 obtain⟨f',a,⟨t,q,kV,h,p,an,j,ct,v,l,c⟩,i⟩:=hd;have e:=n.symm.trans (mg_of X G a);cases e;exact⟨_,b,λs u=>.of_eq (o (kV,h,p,an,j,ct) u),r,ok _ (sB l c i)⟩
def HXc(K:Frag)(x:Str)(C S:Af):Prop:=nsIn K mainGlobals x=some (some (.ref C))/\(∀base:Ah,K.In base->ExC base C)/\PySem.W.ExcK K C/\PySem.W.exmOne K (.ref C) (.ref S)=some true/\PySem.W.kitOne K (.ref C) (.type "ValueError")=some true
def HXs(K:Frag)(S:Af):Prop:=(∃c1 c2 d1 d2 nm1 bs1 mro1 NS q1 hd1 sn1 sub1 ab1 col1 del1 sl1 sl2 es1 n1,K.lookup S=some ⟨c2,d2,.cls ⟨nm1,bs1,mro1,NS,q1,hd1,sn1,sub1,ab1,col1,del1⟩,sl2⟩/\K.lookup NS=some ⟨c1,d1,.dict es1 n1,sl1⟩/\es1.toList.all (λe=>match e.key with | .str _ _=>true|_=>false)=true/\nsIn K NS "__init__" = some none)/\(∃cd,PySem.W.clsIn K S=some cd)/\PySem.W.typeIn K (.ref S)=some (.type "type")/\PySem.W.subIn K (.ref S) (.type "BaseException")=some true /\
 PySem.W.specialIn K (.builtin "object.__class__") "__get__" = some (some (.builtin "getset_descriptor.__get__"))/\PySem.W.takesIn K (.builtin "object.__class__")=some true
def HXs.mk{q:Af}{t F:Str}{u l o:Ab Ad}{r w n:Bool}{x:Ab Str}{p:Aa Bool}{H G:Aa Af}{B A:Ad}{f:Ae DictEntry}{E:Nat}{y v:Ae (Aa Ad)}{C:ClassData}
  (a:K.lookup S=some ⟨A,G,.cls ⟨t,u,l,q,F,r,x,o,w,p,n⟩,v⟩) (b:K.lookup q=some ⟨B,H,.dict f E,y⟩) (i:nsIn K q "__init__" = some none) (d:PySem.W.clsIn K S=some C) (e:PySem.W.typeIn K (.ref S)=some (.type "type")) (g:PySem.W.subIn K (.ref S) (.type "BaseException")=some true)
  (h:PySem.W.specialIn K (.builtin "object.__class__") "__get__" = some (some (.builtin "getset_descriptor.__get__"))) (j:PySem.W.takesIn K (.builtin "object.__class__")=some true) (c:f.toList.all (λe=>match e.key with | .str _ _=>true|_=>false)=true):HXs K S :=
 ⟨⟨B,A,H,G,t,u,l,q,F,r,x,o,w,p,n,y,v,f,E,a,b,c,i⟩,⟨C,d⟩,e,g,h,j⟩
def HXc.mk{N:Af}{nm q:Str}{bs sub:Ab Ad}{hd v:Bool}{y:Ab Str}{b:Aa Bool}{I d:Aa Af}{H k1 k2 k3 J:Aa Ad}{c:Ad}{es:Ae DictEntry}{n:Nat}{t:Ae (Aa Ad)}(s:HXs K S)(a:nsIn K mainGlobals x=some (some (.ref C)))
  (l:K.lookup C=some (excClassObj nm q C N bs [.ref S,.type "ValueError",.type "Exception",.type "BaseException",.type "object"] hd y sub v b I H k1 k2 k3 J "ValueError.__new__")) (o:K.lookup N=some ⟨c,d,.dict es n,t⟩) (F:nsIn K N "__init__" = some none)
  (ga:PySem.W.findIn K (.ref C) "__getattribute__" = some (some (.builtin "BaseException.__getattribute__"))) (B:PySem.W.findIn K (.ref C) "__getattr__" = some none) (cl:PySem.W.findIn K (.ref C) "__class__" = some (some (.builtin "object.__class__"))) (E:PySem.W.mroIn K C (.type "object")=some true) (i:PySem.W.mroIn K C (.type "BaseException")=some true)
  (w:PySem.W.subIn K (.ref C) (.type "ValueError")=some true) (ks:PySem.W.subIn K (.ref C) (.ref S)=some true) (A:es.toList.all (λe=>match e.key with | .str _ _=>true|_=>false)=true):HXc K x C S:=by
 obtain⟨⟨c1,c2,d1,d2,R,U,p,NS,q1,O,P,u,Y,M,r,Q,X,Z,n1,G,L,f,i1⟩,⟨cd,d⟩,e,g,h,j⟩:=s;exact⟨a,Zak l o A F G L f i1,⟨ga,B,cl,h,j,E,i,Zar l⟩,Z8A d e ks g,Z8p (T := "ValueError") (by decide +kernel) w⟩
end
structure Z77(P:Program)(w:World)(K:Frag)(mg:Str->Option Value)(base:Heap)(CD:Addr)(m:Str)(k n:Nat)(g:Addr->D->List D->Option (D×D)):Prop where
 ex:∃fA fd ps,iF P w K mg base CX0 k fA fd ps (spG K n g)/\Zav K CD m fA/\Binds K fd ps []/\Cls K CD
open Classical in
def W5(a CD:Af)(m:Str)(il i:Nat)(g:Af->D->Ab D->Aa (D×D))(fs:En->Aa (Ab D)):En->Ab D->Res×Ab D:=λenv ws=>match fs env,ws with
 | some xs,[.obj C ns ds]=>if C=CD /\ m ∉ ns /\ (∃ o,env[il]? = some (some (o,.fn a [] []))) then
   (match g a (.obj C ns ds) xs with
    |some (d,w')=>(.next (env.set i (some (true,d))),[w'])
    |none=>(.bad,ws)) else(.bad,ws)
 |_,_=>(.bad,ws)
theorem Z4F:∀{ns:Ab Str}{vs:Ab V},m∉ns->(ns.zip vs).lookup m=none
 |[],_,_=>rfl
 |_::_,[],_=>rfl
 |n::ns,v::vs,h=>by
  have h1:(m==n)=false:=beq_eq_false_iff_ne.mpr λz=>h (z ▸ Qah);rw[QbE,QaL,h1];exact Z4F λz=>h (Qab _ z)
def Z5n
  (c:Z77 X.prog X.w X.K X.mg X.base CD m k n g) (hr:Room k X.A) (hna:NArgs n fs) (ha:QA X m1 rs1 (e::es) fs) (hxe:X.xe=λ_ _=>False)
  (hN:X.N.Nodup) (O:X.N[il]?=some dv) (hvl:Vis X.env.scope dv) (hi:X.N[i]?=some xv) (li:X.env.scope.names.lookup xv=some .local)
  (hdv:nDb dv:=by decide) (hdv2:(dv==("__classdict__" : Str))=false:=by decide)
  (he:sEa e es X.env:=by rfl) (hpl:bTa p3 es X.env:=by rfl)
  (hs1:swapsWith (.Call (.Attribute (.Name dv p2) m ap) (e::es) [] p3) (some (.Name xv p1)) p4.line X.env=pure false:=by rfl)
  (ht:eval (.Call (.Attribute (.Name dv p2) m ap) (e :: es) [] p3) X.env=(do
   let ov <- eval (.Name dv p2) X.env
   standAt ap.atName
   let (f,first) <- holding [ov] (getMethod ov m pl)
   callWith p3 f first (backTo p3 (starEach (e::es) X.env)) (backToKw p3 (keywordEach [] X.env))):=by rfl) :
  QSg X [a] (.Try [.Assign [.Name xv p1] (.Call (.Attribute (.Name dv p2) m ap) (e::es) [] p3) p4] (h0::hs) [] [] p10) (W5 a CD m il i g fs):=by
 classical
 intro pins s σ H D I ⟨P,env,ws,⟨fw,W,IS⟩,q⟩;obtain⟨fA,fd,ps,G,Q,j,S⟩:=c.ex;obtain⟨F,hF⟩:=IS.ex;unfold W5 at q;split at q
 .rename_i xs C ns ds h1;split at q
  .rename_i p;obtain⟨rfl,Z,o0,Y⟩:=p;obtain⟨v0,T,L⟩:=hF.ok il o0 _ Y;simp only[Rep]at L;obtain⟨rfl,_⟩:=L;obtain⟨ro,ndw,plw⟩:=hw_one.mp W;have B:=ro;simp only[Rep]at B;obtain⟨a',dx,vsf,fp',ea,_,hA,_,hln,_⟩:=B;cases ea;refine wpAny_Try_except (wpAny_execs_cons (wpAny_Assign_Name ?_ hs1));refine PySem.W.methodCall_KW (pl:=pl) (Rc ((show PE X (.Name dv p2) (wZ il) from jG O hvl hdv hdv2) pins s σ H (λx H1=>x=.ref a/\H1=H) I ⟨.ref a,T,rfl,rfl⟩) (λu s0 ⟨x0,H0,I0,r0,ex,eh⟩=>?_) λ_ _ z=>(by rw[hxe]at z;exact z.elim)) ht
   subst ex eh;obtain rfl:u=Value.ref a:=r0;refine Z1p I0 hA S Q (Z4F Z) ?_;refine PySem.W.callWith_K (first:=[.ref a]) (h₀:=X.base) I.ok.mod.kin Q.kp (Rc (ha p3 pins s0 σ H0 (λvs H1=>Same H0 H1/\∃fp,Reps X.K m1 H1 xs vs fp/\∀b∈fp,b∉fw) I0 ⟨env,nrm env F,xs,hF.nrm.ok.same hid_le,h1,λvs H1 fp sm r cd=>⟨sm,fp,r,λb j hz=>?_⟩⟩) (λus s1 ⟨vs,H1,I1,r,sm,fp,rr,apf⟩=>⟨I1.kIn,?_⟩) λ_ _ z=>(by rw[hxe]at z;exact z.elim)) he hpl
   .rcases cd.1 b j with z|⟨rr,_,z⟩
    .obtain⟨o,e⟩:=W.dom b hz;rw[z]at e;cases e
    .obtain⟨sl,E⟩:=N5 z;rw[oC E]at z;obtain⟨o,e⟩:=hF.dom E b z;rw[oN hz]at e;cases e
   have M:=W.same sm;have rp:Reps X.K false (Hid H1 fw) xs vs fp:=Reps.keep _ _ _ ⟨λb j o e=>by rw[bR (apf b j)];exact e,λb xs e=>by rw[bR (M.hd.tup e)];exact e,λb o u e=>by rw[bR (M.hd.frz e)];exact e⟩ (Reps.weak _ _ _ rr);have l:SInv X.K P (Hid H1 fw) σ env:=IS.grow (kM sm);have r2:Vals (.ref a::vs) (.ref a::us):=.cons rfl r;cases h:g a (.obj C ns ds) xs with
   |none=>simp only[h]at q;exact q.elim
   |some dw =>
    obtain⟨d,w'⟩:=dw;simp only[h]at q;have y:spG X.K n g (.ref a::vs) H1 (λv t=>SInvG X.K (Hid H1 fw) t [some v] [some (true,d)] [a] [w']) (λ_ _ _=>False):=⟨a,vs,_,xs,fw,fp,d,w',rfl,hna.len env xs h1,M,rp,h,λv t J=>J⟩;have O:(Value.ref a::us++[]).length=ps.length:=by rw[QaP,<- r2.length];exact G.len _ _ _ _ y
    refine wpAny_call (codeAny_mono (G.run X.A X.stack s1 H1 ⟨.ref a::us,[]⟩ (.ref a::us++[]) (.ref a::vs) _ _ hr I1.env0 (j s1 (.ref a::us) I1.kIn O) (by rw[QaP];exact r2) y) λr s' hq=>?_);cases r with
    |error e=>exact False.elim hq
    |ok fl =>
     cases fl with
     |ret u =>
      obtain⟨v,t,I2,rv,J⟩:=I1.after hq;refine xD I2 hN hi (.inl li) rv (λs3 I3=>wpAny_execs_nil (wpAny_execs_nil ⟨_,t,I3,q _ _ ?_⟩)) (.inr li);obtain⟨f',W',J'⟩:=J;obtain⟨fv,U,R,a0⟩:=lW (σ:=[]) (env:=[]) J';obtain⟨F1,hF1⟩:=l.ex;exact⟨f',W',Z3e i (pH l.same l.len hF1 J'.same U R a0)⟩
     |next=>exact False.elim hq
     |brk=>exact False.elim hq
     |cont=>exact False.elim hq
  .exact q.elim
 .exact q.elim
def Z3A(h1:fs env=some xs)(e:m∉ns)(f:env[il]?=some (some (o,.fn a [] [])))(b:G a (.obj CD ns ds) xs=some (d,w')) :
  W5 a CD m il i G fs env [.obj CD ns ds]=(.next (env.set i (some (true,d))),[w']):=by
 unfold W5;rw[h1];simp only;rw[if_pos ⟨rfl,e,o,f⟩,b]
def HMe.mN{P:Aj}{w:Ak}{K:Frag}{mg:Str->Aa Ad}{base:Ah}{x:Str}{k n L:Nat}{G:Af->En->Ab D->Res×Ab D}{C:Af}{q:Str}{st:Stmt}(h:HMe K x C st q)(c:Cls K C)(N:Ab Str)
  (p:∀(a:Af) {f:Af}{cdv:Ad}{A:Ai}{outer:Ab Env}{s:Ac}{H:Hp}{E:XK},N.Nodup->Room k (A.deeper (envOfC q (aT st) s.heap.objs.size f cdv))->QSsg (uK CX0 P w K mg base N q (aT st) f cdv A outer s H E).nox [a] (cO st) (G a))
  (S:gN N (N.take (n+1)) (aT st):=by exact(Ro)) (v:(N.take (n+1)).length=n+1:=by rfl) (o:N.length=L:=by rfl)
  (y:∀(r:Ad×Ad×Ad×Aa Af×Ad×Ad) (us:Ab Ad),us.length=(N.take (n+1)).length->bindArgs (fnOf x q (dY st) (cO st) (aT st) .none r.1 r.2.1 r.2.2.1 r.2.2.2.1 r.2.2.2.2.1 r.2.2.2.2.2) ⟨us,[]⟩=pure ((N.take (n+1)).zip us):=by intro _;repeat (first|exact PD.us0 rfl|refine PD.usS λ_=>?_)):Z77 P w K mg base C x (k+1) n (A3 L G):=by
 obtain⟨f,B,I,kV,j,t,an,u,ct,F,b,l,e,d,i⟩:=h;exact⟨⟨f,_,_,FunD.okG (sB l e d) S v o λa _ _ _ _ _ _ hr=>p a S.nd hr,⟨b,i,d⟩,.all (y (kV,j,t,an,u,ct)),c⟩⟩
end PD
namespace L2
open PySem PySem.Spec PyProof.Rows
def pkI(lo st:Aa Int)(n:Nat):Ab Nat:=sliceRange (sliceBounds lo none st n).1 (sliceBounds lo none st n).2.1 (sliceBounds lo none st n).2.2
theorem Vals.pick(r:Vals xs us):∀L:Ab Nat,Vals (L.filterMap (xs[·]?)) (L.filterMap (us[·]?))
 |[]=>.nil
 |i::L=>by
  cases e:xs[i]? with
  |none=>rw[QbD e,QbD (r.none_of e)];exact Vals.pick r L
  |some x =>
   obtain⟨u,a,q⟩:=r.get e;rw[Qbd e,Qbd a];exact .cons q (Vals.pick r L)
def pe_slSt{X:Cx}{e:Ag}{te:TE}{lo:Aa Ag}{st:Ag}{tl n:TO}{pos p2:Pos}(he:PE X e te)(y:PO X lo tl)(f:PO X (some st) n):PE X (.Subscript e (.Slice lo none (some st) p2) pos)
  (λσ H Q=>te σ H λx H1=>tl σ H1 λl H2=>n σ H2 λk H3=>∃a xs,x=.ref a/\SqL X.K H3 a xs/\k≠some 0/\∀p,H3 p=none->Q (.ref p) (upd H3 p (.lst ((pkI l k xs.length).filterMap (xs[·]?))))):=by
 intro pins s σ H Q I h;refine Subscript_ (thn (he pins s σ H _ I h) λv s1 ⟨x,H1,I1,r1,q1⟩=>?_);refine wpAny_Slice (thn (y pins s1 σ H1 _ I1 q1) λvl s2 ⟨l,H2,I2,pl,q2⟩=>?_);rw[evalPart_none];refine Rb (thn (f pins s2 σ H2 _ I2 q2) λvs s3 ⟨k,H3,I2,pk,a,xs,ex,hx,hk,q⟩=>?_);subst ex;cases r1;have j:Inv X pins σ H3 { s3 with heap:=s3.heap.push { cls:=.type "slice",data:=.fields #[vl,.none,vs] } }:=I2.kept (t':=s3.toks) λb ob q=>Qac _ q;obtain⟨its,r,f,B⟩:=j.list hx;have i:=r.length;show wpAny (model X.prog X.w) X.A (subscriptTail e (.Slice lo none (some st) p2) (.ref a) (.ref s3.heap.objs.size)) (EP X pins σ Q) X.xe { s3 with heap:=s3.heap.push { cls:=.type "slice",data:=.fields #[vl,.none,vs] } };refine tail_any (ops:=[.ref a,.ref s3.heap.objs.size]) f.isList.typeIs slot_list_getitem.lookup ?_ (by with_unfolding_all rfl);refine wpAny_getItem_list_slice f.isList (Heap.IsSliceOf.new ..) pl .none pk hk ?_ (by rw[Qao]<;>omega);have hsz:=slicePick_size_le its.toArray l none k;have u:slicePick its.toArray l none k=((pkI l k xs.length).filterMap (its[·]?)).toArray:=by
  unfold slicePick pkI;rw[Qao,i];simp only[List.getElem?_toArray]
 rw[u]at hsz ⊢;have t:=r.pick (pkI l k xs.length);refine⟨.ref (s3.heap.push { cls:=.type "slice",data:=.fields #[vl,.none,vs] }).objs.size,_,j.laid (t':=s3.toks) (o:=.lst ((pkI l k xs.length).filterMap (xs[·]?))) (λb ob q=>Qac _ q) (Qan _) ?_,rfl,q _ (j.hok.fresh (Qan _))⟩;refine⟨?_,_,0,t,Qap _ rfl⟩;rw[Qao,Qao]at hsz;rw[t.length];omega
end L2
namespace PD
open PySem PySem.Spec PyProof.Rows L2
def vK(fa:En->Aa D)(fl fk:En->Aa (Aa Int)):En->Aa D:=λenv=>match fa env,fl env,fk env with
 |some (.lst ds),some l,some k=>if flats ds=true/\k≠some 0 then some (.lst ((pkI l k ds.length).filterMap (ds[·]?))) else none
 |_,_,_=>none
theorem Reps.pick{K:Frag}{st:Bool}{H:Hp}{ds:Ab D}{vs:Ab V}(r:Reps K st H ds vs []):∀L:Ab Nat,Reps K st H (L.filterMap (ds[·]?)) (L.filterMap (vs[·]?)) []
 |[]=>by simp only[List.filterMap_nil,Reps];exact⟨trivial,trivial⟩
 |i::L=>by
  have h:=Reps.pick r L;cases e:ds[i]? with
  |none =>
   have a:vs[i]?=none:=by rw[List.getElem?_eq_none_iff]at e ⊢;rw[r.length];exact e
   rw[QbD e,QbD a];exact h
  |some d =>
   obtain⟨v,f,a,q,j,_⟩:=Reps.get r e;obtain rfl:f=[]:=Qbf.mpr λb hb=>(by cases j b hb);rw[Qbd e,Qbd a];simp only[Reps];exact⟨v,_,[],[],rfl,rfl,q,h⟩
def Z2g{X:Cx}{m m1:Bool}{rs rs1:Ab Nat}{a:Ag}{fa:En->Aa D}{lo:Aa Ag}{st:Ag}{fl b:En->Aa (Aa Int)}{p2 pos:Pos}(o:QE X m1 rs1 a fa)(t:QO X lo fl)(w:QO X (some st) b):QE X m rs (.Subscript a (.Slice lo none (some st) p2) pos) (vK fa fl b) :=
 .mk (L2.pe_slSt o t w) λσ H Q ⟨env,F,d,ok,e,q⟩=>by
  unfold vK at e;split at e
  .rename_i ds l k h1 u x;split at e
   .rename_i f;cases e;refine⟨env,F,_,ok,h1,λv H1 f1 s1 r1 c1=>⟨env,F,l,ok.same s1,u,λH2 s2=>⟨env,F,k,ok.same (s1.trans s2),x,λH3 s3=>?_⟩⟩⟩;obtain⟨p,vs,fp',rfl,h,i,r⟩:=cA (r1.same (s2.trans s3));refine⟨p,vs,rfl,h,f.2,λp' hp=>?_⟩;obtain⟨y,n⟩:=Reps.flat _ _ _ f.1 i;rw[i.length];have j:=(n m).pick (pkI l k ds.length);exact q _ _ [p'] (((s1.trans s2).trans s3).trans (bU hp)) (iO hp j) (iC ((s1.trans s2).trans s3) hp j .nil)
   .cases e
  .cases e
def Z9Y(i:Nat)(hi:i<2):∀(ps:Ab (α×α)),(pkI (if i=0 then none else some 1) (some 2) (2*ps.length)).filterMap ((ps.flatMap λp=>[p.1,p.2])[·]?)=ps.map λp=>if i=0 then p.1 else p.2:=by
 intro ps;have e:pkI (if i=0 then none else some 1) (some 2) (2*ps.length)=(List.range ps.length).map λk=>i+2*k:=by
  have f:sliceBounds (if i=0 then none else some 1) none (some 2) (2*ps.length)=(((min i (2*ps.length):Nat):Int),((2*ps.length:Nat):Int),(2:Int)):=by
   rcases Nat.lt_or_ge i 1 with h|h
   .obtain rfl:i=0:=by omega
    simp[sliceBounds]
   .obtain rfl:i=1:=by omega
    simp[sliceBounds];omega
  unfold pkI;rw[f];unfold sliceRange;dsimp only;rw[if_pos (by decide)];by_cases a:ps.length=0
  .rw[a];simp
  .rw[if_pos (by omega),show((((2*ps.length:Nat):Int)-((min i (2*ps.length):Nat):Int)+2-1)/2).toNat=ps.length by omega];refine Qbh λk hk=>?_;omega
 rw[e,List.filterMap_map];clear e
 induction ps with
 |nil=>rfl
 |cons p ps ih =>
  rw[Qaf,List.range_succ_eq_map,Qbd (b:=if i=0 then p.1 else p.2),List.filterMap_map,Qak]
  .refine congrArg (_ :: ·) (Eq.trans ?_ (ih));refine congrArg (List.filterMap · _) (funext λk=>?_);show(p.1::p.2::_)[i+2*(k+1)]?=_;rw[show i+2*(k+1)=(i+2*k)+1+1 by omega];try rfl
  .show(p.1::p.2::_)[i+2*0]?=_;rcases Nat.lt_or_ge i 1 with h|h
   .obtain rfl:i=0:=by omega
    rfl
   .obtain rfl:i=1:=by omega
    rfl
end PD
set_option maxHeartbeats 0
namespace G
open PySem PySem.Spec PyProof.Rows L2 PD
def top(i:Nat):Stmt:=PySem.Challenge.pw_stuckwire_k62_desk_faults.main.body.getD i (.Pass ⟨0,0,0,0⟩)
abbrev Z9y:Stmt:=top 78
abbrev Z3n:Stmt:=top 79
abbrev Z3q:Stmt:=top 80
abbrev Z3o:Stmt:=top 84
abbrev Z53:Stmt:=top 82
abbrev Z52:Stmt:=top 81
abbrev Z3r:Stmt:=top 83
abbrev Z0X:Stmt:=top 93
abbrev V3:Stmt:=top 94
abbrev V2:Stmt:=top 91
abbrev Z7x:Stmt:=top 90
abbrev Z0W:Stmt:=top 92
abbrev Z3m:Stmt:=top 98
abbrev vW:Stmt:=top 25
abbrev V1:Stmt:=top 12
abbrev J7:Stmt:=top 24
abbrev Z50:Stmt:=top 22
abbrev K5:Stmt:=top 23
abbrev A0:Stmt:=top 76
abbrev xN:Stmt:=top 75
abbrev V5:Stmt:=top 28
abbrev Z3v:Stmt:=top 6
abbrev K2:Stmt:=top 13
abbrev K0:Stmt:=top 11
abbrev Z3i:Stmt:=top 10
abbrev Z7A:Stmt:=top 9
abbrev K3:Stmt:=top 7
abbrev xM:Stmt:=top 8
abbrev Z4X:Stmt:=top 4
abbrev J9:Stmt:=top 5
abbrev Z0T:Stmt:=top 27
abbrev Z9z:Stmt:=top 32
abbrev K1:Stmt:=top 74
abbrev Z3u:Stmt:=top 35
abbrev Z3w:Stmt:=top 34
abbrev rM:Stmt:=top 37
abbrev Z7w:Stmt:=top 36
abbrev zW:Stmt:=top 72
abbrev Z56:Stmt:=top 69
abbrev V4:Stmt:=top 57
abbrev vT:Stmt:=top 56
abbrev Z0V:Stmt:=top 53
abbrev U9:Stmt:=top 55
abbrev Z0U:Stmt:=top 54
abbrev Z9x:Stmt:=top 52
abbrev vV:Stmt:=top 61
abbrev Z3t:Stmt:=top 65
abbrev V0:Stmt:=top 64
abbrev zX:Stmt:=top 62
abbrev sY:Stmt:=top 63
abbrev zV:Stmt:=top 60
abbrev Z8T:Stmt:=O9 (top 68) 1
abbrev Z51:Stmt:=top 96
abbrev Z3l:Stmt:=top 97
abbrev vU:Stmt:=top 99
abbrev zZ:Stmt:=top 95
abbrev Z7y:Stmt:=top 85
abbrev zY:Stmt:=top 86
abbrev Z3k:Stmt:=top 87
abbrev xL:Stmt:=top 88
abbrev Z3p:Stmt:=top 100
abbrev Z8W:Stmt:=top 101
abbrev kE:Stmt:=O9 (top 1) 0
abbrev nV:Stmt:=O9 (top 68) 0
def iP(C:Af):Ab D->Aa D:=λds=>match ds with
 |[i,r,o]=>match (bC (aD 1)) [none,some (false,i),some (false,r),some (false,o)],(bL [] (cR (aD 2)) fTT (fB1 uR (aC (aD 0) aH))) [none,some (false,i),some (false,r),some (false,o)],(fB1 jR (aC (aD 3) aH)) [none,some (false,i),some (false,r),some (false,o)] with
  |some a,some b,some c=>some (.obj C ["ins","rows","outs"] [a,b,c])
  |_,_,_=>none
 |_=>none
def yO(C CD:Af):Ab D->Aa D:=λds=>match ds with
 |[]=>match (fB1 (iP C) (aC (kI 0) (aC (dN (aC (gU (aC (kS "fix") (aC (kI 0) aH))) aH)) (aC (dN (aC (kI 0) aH)) aH)))) [none] with
  |some a=>some (.obj CD ["circuit"] [a])
  |_=>none
 |_=>none
def Z6s(C:Af):En->Res :=
  (aM (rIf (fBI (λi j=>decide (i<j)) (aD 1) (fB1 bV (aC (aD 0) aH))) (bQ (bC (fIx (aD 0) (aD 1)))) bF)
  (bQ (kI 0)))
def jH(C:Af):Ab D->Aa D:=runF 2 (Z6s C)
def uE(C:Af):En->Res :=
  (aM (rIf (fBI (λi j=>decide (j<=i)) (aD 0) (fPw (kI 10) (kI 40))) (bQ (fMo (fDv (fSu (aD 0) (fPw (kI 10) (kI 40))) (fSh (kI 1) (fMu (kI 31) (fMo (aD 1) (kI 60))))) (fSh (kI 1) (kI 31)))) bF)
  (aM (bJ 2 (fMo (fAd (fAd (fMu (aD 0) (kI 1103515245)) (fMu (fMu (kI 7919) (aD 1)) (aD 1))) (aD 1)) (kI 2147483647)))
  (aM (bJ 2 (fMo (fMu (aD 2) (aD 2)) (kI 2147483629)))
  (bQ (fMo (fMu (aD 2) (kI 69621)) (kI 2147483587))))))
def gA(C:Af):Ab D->Aa D:=runF 3 (uE C)
def F5(C:Af):En->Res :=
  (aM (bJ 2 (bL [] (sB1 fR (aC (aD 1) aH)) fTT (fAd (fMu (aD 0) (aD 0)) (kI 1))))
  (aM (bJ 3 (fSl (aD 0) gG (fP (kI 63))))
  (aM (eQ [] (sB1 Z0A (aC (kI 2) (aC (fB1 bV (aC (aD 3) aH)) aH))) (gtN 4) (aM (bJ 5 (fMo (aD 4) (aD 1)))
  (aM (bJ 6 (fAd (fMu (fIx (aD 2) (aD 5)) (kI 31)) (aL (gA C) [] (aC (fIx (aD 3) (aD 4)) (aC (aD 4) aH)))))
  (W7 2 (aD 5) (fMo (aD 6) (kI 2147483629))))))
  (jA 2))))
def tP(C:Af):Ab D->Aa D:=runF 7 (F5 C)
def F4(C:Af):En->Res :=
  (aM (bJ 2 (kI 0))
  (aM (eQ [] (sB1 fR (aC (fSh (kI 1) (aD 0)) aH)) (gtN 3) (rIf (fEq (fMo (fDv (aD 3) (fSh (kI 1) (aD 1))) (kI 2)) (kI 1)) (bJ 2 (fAd (aD 2) (fSh (kI 1) (aD 3)))) bF))
  (bQ (bC (aD 2)))))
def mE(C:Af):Ab D->Aa D:=runF 4 (F4 C)
def Z04(C:Af):En->Res :=
  (aM (bJ 2 (dN (aC (fSu (aD 0) (kI 1)) aH)))
  (aM (eQ [] (sB1 fR (aC (fMo (aD 1) (kI 4)) aH)) (gtN 3) (fU 2 (fMo (fDv (aD 1) (fAd (aD 3) (kI 4))) (aD 0))))
  (aM (rIf (fEq (fMo (fDv (aD 1) (kI 64)) (kI 16)) (kI 0)) (gJ 2 2 (bL [0,1] (sB1 fR (aC (fSu (kI 16) (fB1 bV (aC (aD 2) aH))) aH)) fTT (fMo (fMu (aD 0) (aD 2)) (aD 1)))) bF)
  (aM (rIf (fEq (fMo (fDv (aD 1) (kI 1024)) (kI 3)) (kI 0)) (bJ 2 (P9 (aD 2))) bF)
  (jA 2)))))
def yN(C:Af):Ab D->Aa D:=runF 4 (Z04 C)
def Z03(C:Af):En->Res :=
  (aM (bJ 2 (dN aH))
  (aM (eQ [1] (cR (aD 1)) (gtN 3) (aM (bJ 4 (fAd (aD 0) (fB1 bV (aC (aD 2) aH))))
  (aM (bJ 5 (fSu (fSu (aD 4) (kI 1)) (fMo (fDv (aD 3) (kI 16)) (fB1 Z4D (aC (kI 1) (aC (fB1 Z8M (aC (aD 4) (aC (kI 5) aH))) aH))))))
  (aM (bJ 6 (fSu (fSu (aD 4) (kI 1)) (fMo (fDv (aD 3) (kI 80)) (fB1 Z4D (aC (kI 1) (aC (aD 4) aH))))))
  (rIf (fOr (fEq (aD 4) (kI 0)) (fEq (fMo (aD 3) (kI 16)) (kI 0))) (fU 2 (gU (aC (kS "fix") (aC (fMo (fDv (aD 3) (kI 16)) (kI 2)) aH)))) (rIf (fBI (λi j=>decide (i<j)) (fMo (aD 3) (kI 16)) (kI 4)) (fU 2 (gU (aC (kS "not") (aC (bC (aD 5)) aH)))) (fU 2 (gU (aC (bC (fIx (dN (aC (kS "and") (aC (kS "or") (aC (kS "xor") (aC (kS "and") aH))))) (fMo (aD 3) (kI 4)))) (aC (bC (aD 5)) (aC (bC (aD 6)) aH)))))))))))
  (jA 2)))
def yM(C:Af):Ab D->Aa D:=runF 7 (Z03 C)
def F6(C:Af):En->Res :=
  (aM (bJ 1 (aL (jH C) [] (aC (aD 0) (aC (kI 0) aH))))
  (aM (bJ 2 (bC (fIx (dN (aC (fMo (aD 1) (kI 4)) (aC (fMo (fDv (aD 1) (kI 4)) (kI 6)) aH))) (fB1 Z0C (aC (uJ (fEq (fMo (fDv (aD 1) (kI 36)) (kI 6)) (kI 5))) aH)))))
  (aM (bJ 3 (aL (tP C) [] (aC (aD 0) (aC (kI 11) aH))))
  (aM (bJ 4 (aL (yM C) [] (aC (aD 2) (aC (fSl (aD 3) gG (fP (fMo (aL (jH C) [] (aC (aD 0) (aC (kI 1) aH))) (kI 11)))) aH))))
  (aM (rIf (fEq (fAd (aD 2) (fB1 bV (aC (aD 4) aH))) (kI 0)) (bJ 4 (dN (aC (gU (aC (kS "fix") (aC (fMo (fDv (aD 1) (kI 216)) (kI 2)) aH))) aH))) bF)
  (aM (bJ 5 (aL (yN C) [] (aC (fAd (aD 2) (fB1 bV (aC (aD 4) aH))) (aC (fX 3 10) aH))))
  (D8 (.inl 2::(.inl 4::(.inl 5::(.inr (bL [2] (sB1 fR (aC (aD 2) aH)) fTT (aL (mE C) [] (aC (aD 1) (aC (aD 0) aH))))::[])))))))))))
def pS(C:Af):Ab D->Aa D:=runF 6 (F6 C)
def Z1t(C:Af):En->Res :=
  (bQ (bL [1] (cR (aD 0)) fTT (fMo (fDv (aD 0) (fSh (kI 1) (aD 1))) (kI 2))))
def qT(C:Af):Ab D->Aa D:=runF 2 (Z1t C)
def Z05(C:Af):En->Res :=
  (bQ (bL [0] (cR (aD 1)) fTT (aL (qT C) [] (aC (aD 1) (aC (aD 0) aH)))))
def fV(C:Af):Ab D->Aa D:=runF 2 (Z05 C)
def oR(C:Af):En->Res :=
  (aM (rIf (nE (fBI (λi j=>decide (j<=i)) (aD 1) (fX 0 0)) (fEq (fIx (fIx (fX 0 1) (fSu (aD 1) (fX 0 0))) (kI 0)) (kS "fix"))) (bQ (dN (aC (fSu (kI 1) (fIx (fIx (fX 0 1) (fSu (aD 1) (fX 0 0))) (kI 1))) aH))) bF)
  (bQ (dN (aC (kI 0) (aC (kI 1) aH)))))
def eU(C:Af):Ab D->Aa D:=runF 2 (oR C)
def P4(C:Af):En->Res :=
  (aM (rIf (fOr (fBI (λi j=>decide (i<j)) (aD 1) (fX 0 0)) (fEq (fIx (fIx (fX 0 1) (fSu (aD 1) (fX 0 0))) (kI 0)) (kS "fix"))) (bQ (dN aH)) bF)
  (bQ (fB1 jR (aC (fSl (fIx (fX 0 1) (fSu (aD 1) (fX 0 0))) (fP (kI 1)) gG) aH))))
def pR(C:Af):Ab D->Aa D:=runF 2 (P4 C)
def yW(C:Af):En->Res :=
  (aM (bJ 1 (fB1 jR (aC (fX 0 2) aH)))
  (aM (eQ [] (sB1 Z0B (aC (fAd (fX 0 0) (fB1 bV (aC (fX 0 1) aH))) aH)) (gtN 2) (rIf (fIn (aD 2) (aD 1)) (gJ 1 1 (aL (pR C) [] (aC (aD 0) (aC (aD 2) aH)))) bF))
  (aM (bJ 3 (dN aH))
  (aM (eQ [] (sB1 fR (aC (fAd (fX 0 0) (fB1 bV (aC (fX 0 1) aH))) aH)) (gtN 2) (rIf (fIn (aD 2) (aD 1)) (aM (gJ 3 3 (bL [2] (cR (aL (eU C) [] (aC (aD 0) (aC (aD 2) aH)))) fTT (gU (aC (kS "wire") (aC (bC (aD 1)) (aC (bC (aD 0)) aH))))))
  (aM (bJ 4 (aL (pR C) [] (aC (aD 0) (aC (aD 2) aH))))
  (eQ [] (sB1 fR (aC (fB1 bV (aC (aD 4) aH)) aH)) (gtN 5) (gJ 3 3 (bL [2,5] (cR (aL (eU C) [] (aC (aD 0) (aC (fIx (aD 4) (aD 5)) aH)))) fTT (gU (aC (kS "leg") (aC (bC (aD 1)) (aC (bC (aD 2)) (aC (bC (aD 0)) aH)))))))))) bF))
  (jA 3)))))
def qS(C:Af):Ab D->Aa D:=runF 6 (yW C)
def uD(C:Af):En->Res :=
  (aM (bJ 2 (dN (aC (fC (.str "named")) aH)))
  (aM (eQ [] (sB1 fR (aC (fB1 bV (aC (aD 0) aH)) aH)) (gtN 3) (gJ 2 2 (dN (aC (fB1 wC (aC (fIx (aD 0) (aD 3)) aH)) (aC (iI (fC (.str "")) (bL [] (cR (fIx (aD 1) (aD 3))) fTT (fB1 wC (aC (aD 0) aH)))) aH)))))
  (bQ (iI (fC (.str " ")) (aD 2)))))
def tO(C:Af):Ab D->Aa D:=runF 4 (uD C)
def jM(C:Af):En->Res :=
  (aM (rIf (nE (fBI (λi j=>decide (j<=i)) (aD 1) (gH C "ins" (aD 0))) (fEq (fIx (fIx (gH C "rows" (aD 0)) (fSu (aD 1) (gH C "ins" (aD 0)))) (kI 0)) (kS "fix"))) (bQ (dN (aC (fSu (kI 1) (fIx (fIx (gH C "rows" (aD 0)) (fSu (aD 1) (gH C "ins" (aD 0)))) (kI 1))) aH))) bF)
  (bQ (dN (aC (kI 0) (aC (kI 1) aH)))))
def cE(C:Af):Ab D->Aa D:=runF 2 (jM C)
def kZ(C:Af):En->Res :=
  (aM (rIf (fEq (fX 0 0) (kS "fix")) (bQ (dN aH)) bF)
  (bQ (fB1 jR (aC (fSl (aD 0) (fP (kI 1)) gG) aH))))
def eT(C:Af):Ab D->Aa D:=runF 1 (kZ C)
def nB(C:Af):En->Res :=
  (aM (rIf (fBI (λi j=>decide (i<j)) (aD 1) (gH C "ins" (aD 0))) (bQ (dN aH)) bF)
  (bQ (aL (eT C) [] (aC (fIx (gH C "rows" (aD 0)) (fSu (aD 1) (gH C "ins" (aD 0)))) aH))))
def eI(C:Af):Ab D->Aa D:=runF 2 (nB C)
def Z02(C:Af):En->Res :=
  (aM (bJ 1 (fC (.dk [] [])))
  (aM (eQ [0] (cR (gH C "outs" (aD 0))) (gtN 2) (xV 1 (aD 2) (fC (.bl true))))
  (aM (eQ [] (sB1 Z0z (aC (fSu (fAd (gH C "ins" (aD 0)) (fB1 bV (aC (gH C "rows" (aD 0)) aH))) (kI 1)) (aC (fSu (gH C "ins" (aD 0)) (kI 1)) (aC (fC (.int (-1))) aH)))) (gtN 3) (rIf (Z1z (aD 3) (aD 1)) (eQ [] (cR (aL (eI C) [] (aC (aD 0) (aC (aD 3) aH)))) (gtN 4) (xV 1 (aD 4) (fC (.bl true)))) bF))
  (bQ (fB1 R9 (aC (aD 1) aH))))))
def yL(C:Af):Ab D->Aa D:=runF 5 (Z02 C)
def sA(C:Af):En->Res :=
  (aM (bJ 1 (dN aH))
  (aM (eQ [] (cR (aL (yL C) [] (aC (aD 0) aH))) (gtN 2) (aM (eQ [] (cR (aL (cE C) [] (aC (aD 0) (aC (aD 2) aH)))) (gtN 3) (fU 1 (gU (aC (kS "wire") (aC (bC (aD 2)) (aC (bC (aD 3)) aH))))))
  (eQ [] (sB1 J1 (aC (aL (eI C) [] (aC (aD 0) (aC (aD 2) aH))) aH)) (gtT [4,5]) (eQ [] (cR (aL (cE C) [] (aC (aD 0) (aC (aD 5) aH)))) (gtN 3) (fU 1 (gU (aC (kS "leg") (aC (bC (aD 2)) (aC (bC (aD 4)) (aC (bC (aD 3)) aH))))))))))
  (jA 1)))
def fF(C:Af):Ab D->Aa D:=runF 6 (sA C)
def lM(C:Af):En->Res :=
  (aM (rIf (lO false (aD 0)) (bQ (fC (.str "good"))) bF)
  (bQ (iI (fC (.str " ")) (bL [] (cR (fSl (aD 0) (fP (fC (.int 1))) gG)) fTT (fB1 wC (aC (aD 0) aH))))))
def lI(C:Af):Ab D->Aa D:=runF 1 (lM C)
def kN(C:Af):En->Res :=
  (aM (rIf (fEq (aD 0) (dN aH)) (bQ (fC (.str "none"))) bF)
  (bQ (iI (fC (.str " / ")) (bL [] (cR (aD 0)) fTT (aL (lI C) [] (aC (aD 0) aH))))))
def fW(C:Af):Ab D->Aa D:=runF 1 (kN C)
def vH(C:Af):En->Res :=
  (aM (bJ 2 (kI 0))
  (aM (eQ [0,1] (sB1 Z0y (aC (aD 0) (aC (aD 1) aH))) (gtT [3,4]) (bJ 2 (fI0 (λi j=>.int (Builtin.bitOr i j)) (aD 2) (fI0 (λi j=>.int (Builtin.bitXor i j)) (aD 3) (aD 4)))))
  (bQ (bC (aD 2)))))
def oJ(C:Af):Ab D->Aa D:=runF 5 (vH C)
def Z46(C:Af):En->Res :=
  (bQ (bL [1] (cR (gH C "outs" (aD 0))) fTT (bC (fIx (aD 1) (aD 0)))))
def tS(C:Af):Ab D->Aa D:=runF 2 (Z46 C)
def jY(C:Af):En->Res :=
  (aM (bJ 3 (bC (fX 0 0)))
  (aM (rIf (fEq (aD 3) (kS "fix")) (bQ (fMu (aD 2) (fX 0 1))) bF)
  (aM (rIf (fEq (aD 3) (kS "not")) (bQ (fI0 (λi j=>.int (Builtin.bitXor i j)) (aD 2) (fX 1 0))) bF)
  (aM (rIf (fEq (aD 3) (kS "and")) (bQ (fI0 (λi j=>.int (Builtin.bitAnd i j)) (fX 1 0) (fX 1 1))) bF)
  (aM (rIf (fEq (aD 3) (kS "or")) (bQ (fI0 (λi j=>.int (Builtin.bitOr i j)) (fX 1 0) (fX 1 1))) bF)
  (bQ (fI0 (λi j=>.int (Builtin.bitXor i j)) (fX 1 0) (fX 1 1))))))))
def fE(C:Af):Ab D->Aa D:=runF 4 (jY C)
def iB(C:Af):En->Res :=
  (aM (bJ 5 (bL [2] (cR (aL (eT C) [] (aC (aD 0) aH))) fTT (bC (fIx (aD 1) (aD 0)))))
  (aM (rIf (nE (lO true (aD 4)) (nE (fEq (fX 4 0) (kS "leg")) (fEq (fX 4 1) (aD 1)))) (W7 5 (fX 4 2) (fMu (aD 3) (fX 4 3))) bF)
  (jA 5)))
def eJ(C:Af):Ab D->Aa D:=runF 6 (iB C)
def mI(C:Af):En->Res :=
  (aM (rIf (nE (lO true (aD 3)) (nE (fEq (fX 3 0) (kS "wire")) (fEq (fX 3 1) (aD 1)))) (bQ (fMu (aD 2) (fX 3 2))) bF)
  (bQ (bC (aD 0))))
def fZ(C:Af):Ab D->Aa D:=runF 4 (mI C)
def Z2F(C:Af):En->Res :=
  (aM (bJ 4 (dN aH))
  (aM (eQ [1] (cR (aD 1)) (gtN 5) (fU 4 (aL (fZ C) [] (aC (aD 5) (aC (fB1 bV (aC (aD 4) aH)) (aC (aD 2) (aC (aD 3) aH)))))))
  (aM (eQ [0] (cR (gH C "rows" (aD 0))) (gtN 6) (aM (bJ 7 (fB1 bV (aC (aD 4) aH)))
  (aM (bJ 8 (aL (eJ C) [] (aC (aD 6) (aC (aD 7) (aC (aD 4) (aC (aD 2) (aC (aD 3) aH)))))))
  (fU 4 (aL (fZ C) [] (aC (aL (fE C) [] (aC (aD 6) (aC (aD 8) (aC (aD 2) aH)))) (aC (aD 7) (aC (aD 2) (aC (aD 3) aH)))))))))
  (jA 4))))
def O0(C:Af):Ab D->Aa D:=runF 9 (Z2F C)
def rZ(C:Af):En->Res :=
  (bQ (fSu (fSh (kI 1) (fSh (kI 1) (aD 0))) (kI 1)))
def iA(C:Af):Ab D->Aa D:=runF 1 (rZ C)
def oU(C:Af):En->Res :=
  (aM (bJ 1 (dN aH))
  (aM (eQ [] (sB1 fR (aC (aD 0) aH)) (gtN 2) (aM (bJ 3 (fSh (kI 1) (aD 2)))
  (aM (bJ 1 (bL [3] (cR (aD 1)) fTT (fI0 (λi j=>.int (Builtin.bitOr i j)) (aD 0) (fSh (aD 0) (aD 1)))))
  (fU 1 (fSh (aL (iA C) [] (aC (aD 2) aH)) (aD 3))))))
  (jA 1)))
def kL(C:Af):Ab D->Aa D:=runF 4 (oU C)
def Z6q(C:Af):En->Res :=
  (bQ (aL (O0 C) [] (aC (aD 0) (aC (aL (kL C) [] (aC (gH C "ins" (aD 0)) aH)) (aC (aL (iA C) [] (aC (gH C "ins" (aD 0)) aH)) (aC (aD 1) aH))))))
def rT(C:Af):Ab D->Aa D:=runF 2 (Z6q C)
def P3(C:Af):En->Res :=
  (bQ (aL (tS C) [] (aC (aD 0) (aC (aL (rT C) [] (aC (aD 0) (aC (aD 1) aH))) aH))))
def fD(C:Af):Ab D->Aa D:=runF 2 (P3 C)
def yU(C:Af):En->Res :=
  (aM (bJ 2 (aL (fD C) [.non] (aC (aD 0) aH)))
  (bQ (bL [2,0] (cR (aD 1)) fTT (aL (oJ C) [] (aC (aD 1) (aC (aL (fD C) [] (aC (aD 2) (aC (aD 0) aH))) aH))))))
def qP(C:Af):Ab D->Aa D:=runF 3 (yU C)
def Z6t(C:Af):En->Res :=
  (aM (bJ 1 (aL (fF C) [] (aC (aD 0) aH)))
  (bQ (bL [] (sB1 Z0y (aC (aD 1) (aC (aL (qP C) [] (aC (aD 0) (aC (aD 1) aH))) aH))) (un2 (fEq (aD 1) (kI 0))) (un2 (bC (aD 0))))))
def N9(C:Af):Ab D->Aa D:=runF 2 (Z6t C)
def P5(C:Af):En->Res :=
  (rIf (mL (fEq (fI2 (λ_ j=>0<=j) (λi j=>.int (i/2^j.toNat)) (aD 1) (gH C "ins" (aD 0))) (fC (.int 0)))) iL bF)
def jX(C:Af):Ab D->Aa D:=runF 2 (P5 C)
def Z45(C:Af):En->Res :=
  (bQ (bL [1] (cR (aD 0)) fTT (fI0 (λi j=>.int (Builtin.bitAnd i j)) (fI2 (λ_ j=>0<=j) (λi j=>.int (i/2^j.toNat)) (aD 0) (aD 1)) (kI 1))))
def tQ(C:Af):Ab D->Aa D:=runF 2 (Z45 C)
def F7(C:Af):En->Res :=
  (aM (bJ 3 (aL (fD C) [] (aC (aD 0) (aC (aD 2) aH))))
  (bQ (bL [3] (cR (aD 1)) fTT (aL (tQ C) [] (aC (aD 1) (aC (aD 0) aH))))))
def mG(C:Af):Ab D->Aa D:=runF 4 (F7 C)
def rY(C:Af):En->Res :=
  (bQ (Q0 (dN (aC (fC .non) aH)) (aL (fF C) [] (aC (aD 0) aH))))
def hV(C:Af):Ab D->Aa D:=runF 1 (rY C)
def Z8x(C:Af):En->Res :=
  (bQ (bL [2,0,1] (cR (aL (hV C) [] (aC (aD 0) aH))) (fEq (aL (mG C) [] (aC (aD 2) (aC (aD 3) (aC (aD 0) aH)))) (aD 1)) (bC (aD 0))))
def N8(C:Af):Ab D->Aa D:=runF 3 (Z8x C)
def lJ(C:Af):En->Res :=
  (aM (eQ [1,2] (sB1 Z0y (aC (aD 1) (aC (aD 2) aH))) (gtT [3,4]) (aM (Z26 (aL (jX C) [] (aC (aD 0) (aC (aD 3) aH))))
  (rIf (mL (fEq (fB1 bV (aC (aD 4) aH)) (fB1 bV (aC (gH C "outs" (aD 0)) aH)))) iL bF)))
  (bQ (aL (fW C) [] (aC (aL (N8 C) [] (aC (aD 0) (aC (aD 1) (aC (aD 2) aH)))) aH))))
def iV(C:Af):Ab D->Aa D:=runF 5 (lJ C)
def kO(C:Af):En->Res :=
  (aM (rIf (fEq (fIx (aD 1) (fC (.int 0))) (fC (.str "give"))) iL bF)
  (aM (rIf (fEq (fIx (aD 1) (fC (.int 0))) (fC (.str "tells"))) iL bF)
  (aM (rIf (fEq (fIx (aD 1) (fC (.int 0))) (fC (.str "named"))) (bQ (aL (iV C) [] (aC (aD 0) (aC (fIx (aD 1) (fC (.int 1))) (aC (fIx (aD 1) (fC (.int 2))) aH))))) bF)
  (aM (rIf (fEq (fIx (aD 1) (fC (.int 0))) (fC (.str "idle"))) (bQ (aL (fW C) [] (aC (aL (N9 C) [] (aC (aD 0) aH)) aH))) bF)
  (bQ (fB1 wC (aC (fB1 bV (aC (aL (fF C) [] (aC (aD 0) aH)) aH)) aH)))))))
def jC(C:Af):Ab D->Aa D:=runF 2 (kO C)
def oS(C:Af):En->Res :=
  (aM (rIf (fOr (fEq (aD 0) (kS "")) (fBI (λi j=>decide (j<i)) (fB1 bV (aC (aD 0) aH)) (kI 9))) (bQ (fC (.bl false))) bF)
  (aM (rIf (nE (fEq (fX 0 0) (kS "0")) (mL (fEq (aD 0) (kS "0")))) (bQ (fC (.bl false))) bF)
  (bQ (fB1 Z4E (aC (bL [] (sH (aD 0)) fTT (uJ (fIn (aD 0) (kS "0123456789")))) aH)))))
def kX(C:Af):Ab D->Aa D:=runF 1 (oS C)
def jJ(C:Af):En->Res :=
  (aM (bJ 2 (dN aH))
  (aM (eQ [0] (cR (aD 0)) (gtN 3) (aM (rIf (mL (fB (aL (kX C) [] (aC (aD 3) aH)))) iL bF)
  (aM (bJ 4 (fB1 J0 (aC (aD 3) aH)))
  (aM (rIf (fBI (λi j=>decide (j<=i)) (aD 4) (aD 1)) iL bF)
  (fU 2 (bC (aD 4)))))))
  (jA 2)))
def fI(C:Af):Ab D->Aa D:=runF 5 (jJ C)
def Z1r(C:Af):En->Res :=
  (aM (bJ 1 (nC (aD 0) (fC (.str " "))))
  (aM (rIf (fOr (mL (fEq (fIx (aD 1) (fC (.int 0))) (fC (.str "ins")))) (mL (fEq (fB1 bV (aC (aD 1) aH)) (fC (.int 2))))) iL bF)
  (bQ (bC (fIx (aL (fI C) [] (aC (fSl (aD 1) (fP (fC (.int 1))) gG) (aC (fI0 (λi j=>.int (i+j)) (fC (.int 8)) (fC (.int 1))) aH))) (fC (.int 0)))))))
def qR(C:Af):Ab D->Aa D:=runF 2 (Z1r C)
def oO(C:Af):En->Res :=
  (aM (bJ 2 (nC (aD 0) (fC (.str " "))))
  (aM (rIf (mL (fEq (fIx (aD 2) (fC (.int 0))) (fC (.str "outs")))) iL bF)
  (aM (rIf (fOr (fBI (λi j=>decide (i<j)) (fB1 bV (aC (aD 2) aH)) (fC (.int 2))) (fBI (λi j=>decide (j<i)) (fI0 (λi j=>.int (i-j)) (fB1 bV (aC (aD 2) aH)) (fC (.int 1))) (fC (.int 16)))) iL bF)
  (bQ (aL (fI C) [] (aC (fSl (aD 2) (fP (fC (.int 1))) gG) (aC (aD 1) aH)))))))
def oI(C:Af):Ab D->Aa D:=runF 3 (oO C)
def qV(C:Af):En->Res :=
  (aM (bJ 2 (nC (aD 0) (fC (.str " "))))
  (aM (bJ 3 (bC (fIx (aD 2) (fC (.int 0)))))
  (aM (rIf (mL (fEq (fB1 (Z0D [("fix",1),("not",1),("and",2),("or",2),("xor",2)]) (aC (aD 3) aH)) (fI0 (λi j=>.int (i-j)) (fB1 bV (aC (aD 2) aH)) (fC (.int 1))))) iL bF)
  (aM (bJ 4 (fIf (fEq (aD 3) (fC (.str "fix"))) (fC (.int 2)) (bC (aD 1))))
  (bQ (fB1 uR (aC (Q0 (dN (aC (bC (aD 3)) aH)) (aL (fI C) [] (aC (fSl (aD 2) (fP (fC (.int 1))) gG) (aC (aD 4) aH)))) aH)))))))
def qQ(C:Af):Ab D->Aa D:=runF 5 (qV C)
def Z1s(C:Af):En->Res :=
  (aM (rIf (fBI (λi j=>decide (i<j)) (fB1 bV (aC (aD 0) aH)) (fC (.int 2))) iL bF)
  (aM (rIf (fBI (λi j=>decide (j<i)) (fI0 (λi j=>.int (i-j)) (fB1 bV (aC (aD 0) aH)) (fC (.int 2))) (fC (.int 60))) iL bF)
  (aM (bJ 1 (aL (qR C) [] (aC (fIx (aD 0) (fC (.int 0))) aH)))
  (aM (bJ 2 (dN aH))
  (aM (eQ [] (cR (fSl (aD 0) (fP (fC (.int 1))) (fP (fC (.int (-1)))))) (gtN 3) (fU 2 (aL (qQ C) [] (aC (aD 3) (aC (fI0 (λi j=>.int (i+j)) (aD 1) (fB1 bV (aC (aD 2) aH))) aH)))))
  (bQ (fB1 (iP C) (aC (aD 1) (aC (aD 2) (aC (aL (oI C) [] (aC (fIx (aD 0) (fC (.int (-1)))) (aC (fI0 (λi j=>.int (i+j)) (aD 1) (fB1 bV (aC (aD 2) aH))) aH))) aH))))))))))
def N7(C:Af):Ab D->Aa D:=runF 4 (Z1s C)
def jL(C:Af):En->Res :=
  (aM (rIf (fEq (aD 0) (dN aH)) iL bF)
  (aM (bJ 1 (dN (aC (dN aH) aH)))
  (aM (eQ [0] (cR (aD 0)) (gtN 2) (rIf (fEq (aD 2) (fC (.str "/"))) (fU 1 (dN aH)) (pJ 1 (fC (.int (-1))) (bC (aD 2)))))
  (bQ (bL [] (cR (aD 1)) fTT (iI (fC (.str " ")) (aD 0)))))))
def jI(C:Af):Ab D->Aa D:=runF 3 (jL C)
def uG(C:Af):En->Res :=
  (aM (rIf (mL (fB (fB1 Z4E (aC (bL [] (sH (aD 0)) fTT (uJ (fIn (aD 0) (fC (.str "01"))))) aH)))) iL bF)
  (bQ (bL [] (sH (aD 0)) fTT (fB1 J0 (aC (aD 0) aH)))))
def pT(C:Af):Ab D->Aa D:=runF 1 (uG C)
def oP(C:Af):En->Res :=
  (aM (rIf (mL (fB (aL (kX C) [] (aC (aD 0) aH)))) iL bF)
  (bQ (fB1 J0 (aC (aD 0) aH))))
def jB(C:Af):Ab D->Aa D:=runF 1 (oP C)
def lK(C:Af):En->Res :=
  (aM (rIf (fOr (fEq (aD 0) (dN aH)) (mL (fEq (fI2 (λ_ j=>0<j) (λi j=>.int (i%j)) (fB1 bV (aC (aD 0) aH)) (fC (.int 2))) (fC (.int 0))))) iL bF)
  (aM (bJ 1 (bL [] (cR (vK (aD 0) gG (fP (fC (.int 2))))) fTT (aL (jB C) [] (aC (aD 0) aH))))
  (D8 (.inr (fC (.str "named"))::(.inl 1::(.inr (bL [] (cR (vK (aD 0) (fP (fC (.int 1))) (fP (fC (.int 2))))) fTT (aL (pT C) [] (aC (aD 0) aH)))::[]))))))
def lG(C:Af):Ab D->Aa D:=runF 2 (lK C)
def uB(C:Af):En->Res :=
  (aM (bJ 1 (fB1 (Z2X [([.inr "give",.inl 1],["number"]),([.inr "stuck",.inl 3],["number","bit","number"]),([.inr "leg",.inl 4],["number","bit","bit","number"]),([.inr "faults",.inl 0],[]),([.inr "idle",.inl 0],[]),([.inr "tells",.inl 2],["number","bit"]),([.inr "tells",.inl 3],["number","bit","bit"]),([.inr "lean",.inl 0],[])]) (aC (gU (aC (bC (fX 0 0)) (aC (fSu (fB1 bV (aC (aD 0) aH)) (kI 1)) aH))) aH)))
  (aM (rIf (lO false (aD 1)) iL bF)
  (aM (bJ 2 (dN aH))
  (aM (eQ [1] (sB1 Z78 (aC (fSl (aD 0) (fP (kI 1)) gG) (aC (aD 1) aH))) (gtT [3,4]) (aM (bJ 5 (aL (jB C) [] (aC (aD 3) aH)))
  (aM (rIf (nE (fEq (aD 4) (kS "bit")) (fBI (λi j=>decide (j<i)) (aD 5) (kI 1))) iL bF)
  (fU 2 (bC (aD 5))))))
  (jA 2)))))
def mD(C:Af):Ab D->Aa D:=runF 6 (uB C)
def gI(C:Af):En->Res :=
  (aM (bJ 1 (nC (aD 0) (fC (.str " "))))
  (aM (rIf (fIn (fC (.str "")) (aD 1)) iL bF)
  (aM (rIf (fEq (fIx (aD 1) (fC (.int 0))) (fC (.str "new"))) (bQ (gU (aC (fC (.str "new")) (aC (aL (jI C) [] (aC (fSl (aD 1) (fP (fC (.int 1))) gG) aH)) aH)))) bF)
  (aM (rIf (fEq (fIx (aD 1) (fC (.int 0))) (fC (.str "named"))) (bQ (aL (lG C) [] (aC (fSl (aD 1) (fP (fC (.int 1))) gG) aH))) bF)
  (aM (bJ 2 (aL (mD C) [] (aC (aD 1) aH)))
  (aM (rIf (fEq (fIx (aD 1) (fC (.int 0))) (fC (.str "give"))) (bQ (gU (aC (fC (.str "give")) (aC (fC .non) (aC (bC (fIx (aD 2) (fC (.int 0)))) aH))))) bF)
  (aM (rIf (fOr (fEq (fIx (aD 1) (fC (.int 0))) (fC (.str "stuck"))) (fEq (fIx (aD 1) (fC (.int 0))) (fC (.str "leg")))) iL bF)
  (aM (rIf (fEq (fIx (aD 1) (fC (.int 0))) (fC (.str "tells"))) iL bF)
  (bQ (gU (aC (bC (fIx (aD 1) (fC (.int 0)))) aH)))))))))))
def dF(C:Af):Ab D->Aa D:=runF 3 (gI C)
def Z01(C CD:Af)(a:Af):En->Ab D->Res×Ab D :=
  (cG (gS (bJ 2 (aL (dF C) [] (aC (aD 1) aH))))
  (cG (qA (A7 (fEq (fIx (aD 2) (fC (.int 0))) (fC (.str "new")))) (cG (X1 CD a 0 "circuit" (gPl (aL (N7 C) [] (aC (fIx (aD 2) (fC (.int 1))) aH))))
  (gS (bQ (fC (.str "ok"))))) (gS bF))
  (cG (qA (A7 (fEq (fIx (aD 2) (fC (.int 0))) (fC (.str "lean")))) (cG (gS iL)
  (uX (gOp a (fB1 wC (aC (fB1 bV (aC (gH C "rows" (gH CD "circuit" (aD 0))) aH)) aH))))) (gS bF))
  (uX (gOp a (aL (jC C) [] (aC (gH CD "circuit" (aD 0)) (aC (aD 2) aH))))))))
def Y9(C CD:Af):Af->D->Ab D->Aa (D×D):=A3 3 (Z01 C CD)
def yV(C CD:Af)(a:Af):En->Ab D->Res×Ab D :=
  (cG (gS (bJ 2 (fC .non)))
  (cG (gS (bJ 3 (fC .non)))
  (cG (W5 a CD "say" 0 3 (Y9 C CD) (aC (aD 1) aH))
  (cG (gS (rIf (lO false (aD 2)) (bQ (bC (aD 3))) bF))
  (cG (gS iL)
  (cG (gS iL)
  (cG (gS iL)
  (gS iL))))))))
def kJ(C CD:Af):Af->D->Ab D->Aa (D×D):=A3 6 (yV C CD)
def uC(C:Af):En->Res :=
  (aM (rIf (fEq (fB1 bV (aC (aD 0) aH)) (fC (.int 0))) (bQ (fC (.str "none"))) bF)
  (aM (bJ 1 (dN aH))
  (aM (eQ [0] (cR (aD 0)) (gtN 2) (rIf (lO false (aD 2)) (fU 1 (fC (.str "good"))) (fU 1 (iI (fC (.str " ")) (bL [] (cR (fSl (aD 2) (fP (fC (.int 1))) gG)) fTT (fB1 wC (aC (aD 0) aH)))))))
  (bQ (iI (fC (.str " / ")) (aD 1))))))
def pQ(C:Af):Ab D->Aa D:=runF 3 (uC C)
def jK(C CD:Af)(a:Af):En->Ab D->Res×Ab D :=
  (cG (gS (bJ 4 (bL [3,2] (cR (aD 1)) (un2 (fEq (aL (fV C) [] (aC (aD 1) (aC (aD 3) aH))) (aD 2))) (un2 (bC (aD 0))))))
  (uX (gBl (gEq false (vZ [a] 0 (kJ C CD) (aC (aD 0) (aC (aL (tO C) [] (aC (aD 2) (aC (aD 3) aH))) aH))) (aL (pQ C) [] (aC (aD 4) aH))))))
def gK(C CD:Af):Af->D->Ab D->Aa (D×D):=A3 5 (jK C CD)
def lL(C:Af):En->Res :=
  (aM (bJ 1 (dN (aC (fC (.str "new")) (aC (fC (.str "ins")) (aC (fB1 sT (aC (fIx (aD 0) (fC (.int 0))) aH)) aH)))))
  (aM (eQ [0] (cR (fIx (aD 0) (fC (.int 1)))) (gtN 2) (bJ 1 (Q0 (G1 (aD 1) (dN (aC (fC (.str "/")) aH))) (bL [] (cR (aD 2)) fTT (fB1 sT (aC (aD 0) aH))))))
  (bQ (Q0 (G1 (aD 1) (dN (aC (fC (.str "/")) (aC (fC (.str "outs")) aH)))) (bL [] (cR (fIx (aD 0) (fC (.int 2)))) fTT (fB1 sT (aC (aD 0) aH)))))))
def lH(C:Af):Ab D->Aa D:=runF 3 (lL C)
def Z2E(C:Af):En->Res :=
  (aM (rIf (nE (lO true (aD 3)) (fEq (Z1y (aD 3) gG (fP (kI 3))) (gU (aC (kS "leg") (aC (aD 4) (aC (aD 2) aH)))))) (bQ (fMu (aD 5) (fX 3 3))) bF)
  (bQ (bC (fIx (aD 0) (fIx (aD 1) (fAd (aD 2) (kI 1)))))))
def wN(C:Af):Ab D->Aa D:=runF 6 (Z2E C)
def iX(C:Af):En->Res :=
  (aM (rIf (fEq (fX 1 0) (kS "fix")) (bQ (fMu (aD 4) (fX 1 1))) bF)
  (aM (bJ 5 (aL (wN C) [] (aC (aD 0) (aC (aD 1) (aC (kI 0) (aC (aD 2) (aC (aD 3) (aC (aD 4) aH))))))))
  (aM (rIf (fEq (fX 1 0) (kS "not")) (bQ (fSu (aD 4) (aD 5))) bF)
  (aM (bJ 6 (aL (wN C) [] (aC (aD 0) (aC (aD 1) (aC (kI 1) (aC (aD 2) (aC (aD 3) (aC (aD 4) aH))))))))
  (aM (rIf (fEq (fX 1 0) (kS "and")) (bQ (fI0 (λi j=>.int (Builtin.bitAnd i j)) (aD 5) (aD 6))) bF)
  (aM (rIf (fEq (fX 1 0) (kS "or")) (bQ (fI0 (λi j=>.int (Builtin.bitOr i j)) (aD 5) (aD 6))) bF)
  (bQ (fSu (fI0 (λi j=>.int (Builtin.bitOr i j)) (aD 5) (aD 6)) (fI0 (λi j=>.int (Builtin.bitAnd i j)) (aD 5) (aD 6))))))))))
def fK(C:Af):Ab D->Aa D:=runF 7 (iX C)
def F3(C:Af):En->Res :=
  (aM (Z5e [0] (gtT [2,3,4,5]) (aD 0))
  (aM (bJ 6 (fSu (fSh (kI 1) (fSh (kI 1) (aD 2))) (kI 1)))
  (aM (bJ 7 (dN aH))
  (aM (eQ [] (sB1 fR (aC (fAd (aD 2) (fB1 bV (aC (aD 3) aH))) aH)) (gtN 8) (rIf (nE (lO true (aD 1)) (fEq (Z1y (aD 1) gG (fP (kI 2))) (gU (aC (kS "wire") (aC (aD 8) aH))))) (fU 7 (fMu (aD 6) (fX 1 2))) (rIf (fBI (λi j=>decide (i<j)) (aD 8) (aD 2)) (fU 7 (bC (fIx (aD 5) (aD 8)))) (fU 7 (aL (fK C) [] (aC (aD 7) (aC (fIx (aD 3) (fSu (aD 8) (aD 2))) (aC (aD 1) (aC (aD 8) (aC (aD 6) aH))))))))))
  (jA 7)))))
def tN(C:Af):Ab D->Aa D:=runF 9 (F3 C)
def oQ(C:Af):En->Res :=
  (aM (bJ 2 (aL (tN C) [] (aC (aD 0) (aC (aD 1) aH))))
  (bQ (bL [2] (cR (fX 0 2)) fTT (bC (fIx (aD 1) (aD 0))))))
def kK(C:Af):Ab D->Aa D:=runF 3 (oQ C)
def uF(C CD:Af)(a:Af):En->Ab D->Res×Ab D :=
  (cG (gS (bJ 3 (bL [1] (cR (Q0 (dN (aC (fC .non) aH)) (aL (qS C) [] (aC (aD 1) aH)))) fTT (gU (aC (bC (aD 0)) (aC (aL (kK C) [] (aC (aD 1) (aC (aD 0) aH))) aH))))))
  (cG (gS (bJ 4 (bL [3] (cR (aD 3)) (un2 (nE (lO true (aD 0)) (fEq (aD 1) (fIx (fIx (aD 2) (fC (.int 0))) (fC (.int 1)))))) (un2 (bC (aD 0))))))
  (cG (qA (gEq true (vZ [a] 0 (kJ C CD) (aC (aD 0) (aC (iI (fC (.str " ")) (aL (lH C) [] (aC (aD 1) aH))) aH))) (fC (.str "ok"))) (gS (bQ (fC (.bl false)))) (gS bF))
  (cG (qA (gOr (gEq true (vZ [a] 0 (kJ C CD) (aC (aD 0) (aC (fC (.str "faults")) aH))) (fB1 wC (aC (fI0 (λi j=>.int (i-j)) (fB1 bV (aC (aD 3) aH)) (fC (.int 1))) aH))) (gEq true (vZ [a] 0 (kJ C CD) (aC (aD 0) (aC (fC (.str "idle")) aH))) (aL (pQ C) [] (aC (aD 4) aH)))) (gS (bQ (fC (.bl false)))) (gS bF))
  (cG (gS (bJ 5 (fI0 (λi j=>.int (i+j)) (fC (.int 1)) (fI2 (λ_ j=>0<j) (λi j=>.int (i%j)) (aL (jH C) [] (aC (aD 2) (aC (fC (.int 2)) aH))) (fC (.int 4))))))
  (cG (gS (bJ 6 (bL [2,1] (sB1 fR (aC (aD 5) aH)) fTT (fI2 (λ_ j=>0<j) (λi j=>.int (i%j)) (aL (gA C) [] (aC (aL (jH C) [] (aC (aD 1) (aC (aD 0) aH))) (aC (fI0 (λi j=>.int (i+j)) (aD 0) (fC (.int 3))) aH))) (fI2 lQ (λi j=>.int (i*2^j.toNat)) (fC (.int 1)) (fIx (aD 2) (fC (.int 0))))))))
  (cG (gS (bJ 7 (aL (fV C) [] (aC (fIx (fIx (aD 3) (fC (.int 0))) (fC (.int 1))) (aC (aD 6) aH)))))
  (cG (E1 [] (sB1 fR (aC (fC (.int 2)) aH)) 8 (cG (gS (bJ 9 (aL (gA C) [] (aC (aL (jH C) [] (aC (aD 2) (aC (fI0 (λi j=>.int (i+j)) (fC (.int 3)) (aD 8)) aH))) (aC (fI0 (λi j=>.int (i+j)) (aD 8) (fC (.int 20))) aH)))))
  (cG (gS (bJ 10 (aL (fV C) [] (aC (fIx (fIx (aD 3) (fIx (dN (aC (fI2 (λ_ j=>0<j) (λi j=>.int (i%j)) (aD 9) (fB1 bV (aC (aD 3) aH))) (aC (fC (.int 0)) aH))) (fB1 Z0C (aC (uJ (fEq (aD 8) (fC (.int 0)))) aH)))) (fC (.int 1))) (aC (aD 6) aH)))))
  (cG (gS (bJ 11 (bL [] (cR (aD 10)) fTT (fB1 jR (aC (aD 0) aH)))))
  (cG (gS (bJ 12 (fI2 (λ_ j=>0<j) (λi j=>.int (i%j)) (fI2 fS (λi j=>.int (i/j)) (aD 9) (fC (.int 64))) (aD 5))))
  (cG (gS (bJ 13 (fI2 (λ_ j=>0<j) (λi j=>.int (i%j)) (fI2 fS (λi j=>.int (i/j)) (aD 9) (fC (.int 1024))) (fB1 bV (aC (fIx (aD 1) (fC (.int 2))) aH)))))
  (cG (gS (D9 11 (aD 12) (aD 13) (fI0 (λi j=>.int (i-j)) (fC (.int 1)) (fIx (fIx (aD 11) (aD 12)) (aD 13)))))
  (cG (gS (bJ 14 (fI2 (λ_ j=>0<j) (λi j=>.int (i%j)) (fI2 fS (λi j=>.int (i/j)) (aD 9) (fC (.int 512))) (fI0 (λi j=>.int (i+j)) (aD 5) (fC (.int 1))))))
  (cG (E1 [10,11,7] (cR (dN (aC (aD 10) (aC (aD 11) (aC (Z0e (Z0d (aD 7) gG (fP (aD 14))) (Z0d (aD 10) (fP (aD 14)) gG)) aH))))) 15 (qA (Z06 (gB (vZ [a] 0 (gK C CD) (aC (aD 0) (aC (aD 3) (aC (aD 6) (aC (aD 15) aH))))))) (gS (bQ (fC (.bl false)))) (gS bF)))
  (gS (Z5f 7 [10] (aD 10))))))))))))
  (gS (bQ (fC (.bl true))))))))))))
def mF(C CD:Af):Af->D->Ab D->Aa (D×D):=A3 16 (uF C CD)
def Z6r(C CD:Af):En->Res :=
  λenv=>((cG (gS (bJ 1 (aL (pS C) [] (aC (aD 0) aH))))
  (cG (gS (bJ 2 (aL (pS C) [] (aC (fSl (aD 0) (fP (kI 1)) (fP (kI 20))) aH))))
  (X2 3 (λ_=>yO C CD []) λa =>
  (cG (qA (gOr (Z06 (gB (vZ [a] 0 (mF C CD) (aC (aD 3) (aC (aD 2) (aC (aD 0) aH)))))) (Z06 (gB (vZ [a] 0 (mF C CD) (aC (aD 3) (aC (aD 1) (aC (aD 0) aH))))))) (gS (bQ (fC (.bl false)))) (gS bF))
  (uX (vZ [a] 0 (mF C CD) (aC (aD 3) (aC (aD 2) (aC (fSl (aD 0) (fP (kI 3)) gG) aH))))))))) env []).1
def Z96(C CD:Af):Ab D->Aa D:=runF 4 (Z6r C CD)
local macro_rules | `(tactic| walk_at "ev") => do
 let ns:=("runF enStart List.map_cons List.map_nil List.length_cons List.length_nil List.cons_append List.nil_append List.append_nil List.replicate Nat.reduceAdd Nat.reduceSub Nat.reduceLeDiff PD.fz PD.fz1 ev_var ev_C ev_Flat ev_B ev_OfB ev_And ev_Or ev_Not ev_If ev_Nil ev_Cons ev_Tup ev_Lst ev_BI ev_IsN ev_Eq ev_Ix ev_I2' ev_I0' ev_Call ev_B1 ev_NoP ev_P ev_Sl ev_In ev_SlW ev_RevSl ev_CatF ev_InK keyOf ev_join ev_split ev_seqS ev_seq ev_TT ev_cat ev_rNext ev_rIf ev_rRet ev_rSet ev_rSeq List.getElem?_cons_zero List.getElem?_cons_succ List.set_cons_zero List.set_cons_succ Option.join_some Option.map_some Option.bind_some PD.flat Bool.not_true Bool.not_false if_true if_false eqN_int eqN_str eqN_bl eqN_non eqN_tnon atI_m3 atI_m4 atI_0 atI_1 atI_2 atI_3 decide_true decide_false eq_self and_self Bool.and_true Bool.and_false Bool.true_and Bool.false_and eqN_tup eqL_cons eqL_nil eqL_nilL reduceIte reduceCtorEq Int.reduceEq Int.reduceAdd Int.reduceSub Int.reduceLT Int.reduceLE Int.reduceNeg Nat.reduceEqDiff Nat.reduceBEq Bool.false_eq_true".splitOn " ").toArray.map fun s=>Lean.mkIdent s.toName
 `(tactic| simp only [$[$ns:ident],*, *])
def Z2u(a:rows.length<=1000):iP C [.int ins,.lst (rows.map Row.d),LI outs]=some (bD C ins rows outs):=by
 have b:bL [] (cR (aD 2)) fTT (fB1 uR (aC (aD 0) aH)) [none,oF (.int ins),oF (.lst (rows.map Row.d)),oF (LI outs)]=some (.lst (rows.map Row.d)) :=
  bI Row.d Row.d (xs:=rows) rfl a λr _=>by cases r<;>rfl
 have e:jR [.lst (outs.map D.int)]=some (.lst (outs.map D.int)):=by simp only[jR,dP,Rm]
 unfold iP;simp only[b];simp only[LI,bD];walk_at "ev"
def Ls(l:Ab Nat):Prop:=(∀c∈l,c<128)/\l.length<=400
def dig(c:Nat):Bool:=decide (48<=c/\c<=57)
def okN(l:Ab Nat):Bool:=!decide (l=[])&&decide (l.length<=9) && !(decide (l.head?=some 48) && !decide (l=[48]))&&l.all dig
def jW(l:Ab Nat):(mkS l).length=l.length:=by simp[mkS,Str.length]
def pP(l a:Ab Nat):(mkS l==mkS a)=decide (l=a):=by
 by_cases h:l=a
 .subst h;simp
 .rw[Rj h];cases b:mkS l==mkS a with
  |false=>rfl
  |true =>
   have:=congrArg (λs:Str=>s.cps.toList) (eq_of_beq b);simp only[cU]at this;exact absurd this h
def K4:Str.ofString "" = mkS []:=by decide +kernel
def Z4W:Str.ofString "0" = mkS [48]:=by decide +kernel
def Zbs:(Str.ofString "0123456789").cps.toList=[48,49,50,51,52,53,54,55,56,57]:=by decide +kernel
def Zah(c:Nat):inF (.str ⟨#[c]⟩) (.str "0123456789")=some (dig c):=by
 show some (!(Builtin.Str.occurrences (Str.ofString "0123456789") ⟨#[c]⟩ 0 (Str.ofString "0123456789").length 1).isEmpty)=_;rw[PySem.StrLaws.found_one,Zbs];congr 1;unfold dig;rw[Bool.eq_iff_iff];simp;omega
theorem qZ(p:α->Bool):∀xs:Ab α,jP (xs.map λx=>D.bl (p x))=some (xs.map p)
 |[]=>rfl
 |x::xs=>by simp only[Qak,jP,qZ p xs,Qav]
def Z2W(h:Ls l):(mkS l).cps.all (· < 128)=true:=by
 rw[Array.all_eq_true_iff_forall_mem];intro x a;have:x∈(mkS l).cps.toList:=by simpa using a
 rw[cU]at this;exact Rk (h.1 x this)
def Zbc(h:Ls l):bV [.str (mkS l)]=some (.int (l.length:Int)):=by
 show(if (mkS l).length<=1000 then some (D.int (mkS l).length) else none)=_;have:=h.2;rw[jW,if_pos (by omega)]
def Z8z(h:Ls (c::r)){env:En}{fa:En->Aa D}(e:fa env=some (.str (mkS (c::r)))):fIx fa (fC (.int 0)) env=some (.str (mkS [c])):=by
 have:=h.2;rw[ev_Ix,e,ev_C];show(if (mkS (c::r)).length<=1000 then(atI (mkS (c::r)).cps.toList 0).map λc=>D.str ⟨#[c]⟩ else none)=_;rw[jW,if_pos (by omega),cU,atI_0];rfl
def rV(h:Ls l):kX C [.str (mkS l)]=some (.bl (okN l)):=by
 have k1:bL [] (sH (aD 0)) fTT (uJ (fIn (aD 0) (fC (.str "0123456789")))) [oF (.str (mkS l))]=some (.lst (l.map λc=>D.bl (dig c))):=by
  refine bI (λ(c:Nat)=>.str ⟨#[c]⟩) (λc=>.bl (dig c)) (xs:=l) ?_ (by have:=h.2;omega) (λx a=>?_)
  .rw[ev_seqS];simp only[ev_var,Qaz,QaN,Qav,Z2W h,Rm,qG,cU]
  .rw[ev_OfB,ev_In];simp only[ev_var,Qaz,QaN,Qav,ev_C];rw[Zah];rfl
 have k3:Z4E [.lst (l.map λc=>D.bl (dig c))]=some (.bl (l.all dig)):=by
  show(jP _).map _=_;rw[qZ];simp[List.all_map]
 have f1:=Zbc h;have p:eqN 8 (.str (mkS l)) (.str "")=some (decide (l=[])):=by rw[eqN_str,K4,pP]
 refine ZbZ ?_;show Wp (oS C [oF (.str (mkS l))]) _;unfold oS;by_cases b:l=[]
 .subst b;exact Z9k (by rw[show fOr (fEq (aD 0) (fC (.str ""))) (fBI (λi j=>decide (j<i)) (fB1 bV (aC (aD 0) aH)) (fC (.int 9))) [oF (.str (mkS []))]=some true from by rfl]) rfl
 .have n:fEq (aD 0) (fC (.str "")) [oF (.str (mkS l))]=some false:=by
   show eqN 8 (.str (mkS l)) (.str "")=_;rw[p,Rj b]
  have o:fBI (λi j=>decide (j<i)) (fB1 bV (aC (aD 0) aH)) (fC (.int 9)) [oF (.str (mkS l))]=some (decide ((9:Int)<(l.length:Int))):=by
   rw[ev_BI,cM (xs:=[.str (mkS l)]) rfl f1,ev_C]
  by_cases e:(9:Int)<(l.length:Int)
  .refine Z9k (by rw[ev_Or,n,o,Rk e]) ?_;have:okN l=false:=by unfold okN;rw[Rj (show ¬l.length<=9 by omega)];simp
   rw[this];rfl
  .refine wNo (by rw[ev_Or,n,o,Rj e]) ?_;obtain⟨c,r,rfl⟩:∃c r,l=c::r:=by cases l with
    |nil=>exact absurd rfl b
    |cons c r=>exact⟨c,r,rfl⟩
   have t:fEq (fIx (aD 0) (fC (.int 0))) (fC (.str "0")) [oF (.str (mkS (c::r)))]=some (decide (c=48)):=by
    rw[ev_Eq,Z8z h rfl,ev_C];show eqN 8 (.str (mkS [c])) (.str "0")=_;rw[eqN_str,Z4W,pP];simp
   have q:fEq (aD 0) (fC (.str "0")) [oF (.str (mkS (c::r)))]=some (decide (c::r=[48])):=by
    show eqN 8 (.str (mkS (c::r))) (.str "0")=_;rw[eqN_str,Z4W,pP]
   have f:nE (fEq (fIx (aD 0) (fC (.int 0))) (fC (.str "0"))) (mL (fEq (aD 0) (fC (.str "0")))) [oF (.str (mkS (c::r)))]=some (decide (c=48) && !decide (c::r=[48])):=by
    rw[ev_And,t,ev_Not,q];by_cases hc:c=48<;>simp[hc]
   have ok:okN (c::r)=(!(decide (c=48) && !decide (c::r=[48]))&&(c::r).all dig):=by
    unfold okN;rw[Rj b,Rk (show(c::r).length<=9 by omega)];simp
   cases a:(decide (c=48) && !decide (c::r=[48])) with
   |true =>
    refine Z9k (by rw[f,a]) ?_;rw[ok,a];rfl
   |false =>
    refine wNo (by rw[f,a]) ?_;refine ZbJ (d:=.bl ((c::r).all dig)) ?_ (by rw[ok,a];rfl);exact cM (xs:=[.lst ((c::r).map λc=>D.bl (dig c))]) (aI k1 rfl) k3
def Z1a(h:okN l=true):PySem.NumText.AllDigits l/\l≠[]/\l.length<=9:=by
 unfold okN at h;simp only[QaE,Bool.not_eq_true',decide_eq_false_iff_not,Rl]at h;obtain⟨⟨⟨h1,a⟩,_⟩,b⟩:=h;exact⟨λc hc=>by have:=Qa9.mp b c hc;simpa[dig]using this,h1,a⟩
def Z98(h:okN l=true):J0 [.str (mkS l)]=some (.int ((PySem.NumText.digitsVal l:Nat):Int)):=by
 obtain⟨h1,a,b⟩:=Z1a h;show(if (mkS l).length<=640 then(PySem.intText? (mkS l)).map D.int else none)=_;rw[jW,if_pos (by omega),PySem.intText_digits (by rw[cU];exact h1) (by rw[cU];exact a) (by rw[jW];omega),cU];rfl
def dvI(l:Ab Nat):Int:=((PySem.NumText.digitsVal l:Nat):Int)
def SS(l:Ab Nat):D:=.str (mkS l)
theorem xF(c:Nat):∀(l:Ab Nat),(dG c l).length<=l.length+1/\∀w∈dG c l,w.length<=l.length/\∀x∈w,x∈l
 |[]=>⟨by simp[dG],λw hw=>by rw[QaS.mp (show w∈[[]] from hw)];exact⟨Qan _,λx hx=>by cases hx⟩⟩
 |x::xs=>by
  obtain⟨h1,f⟩:=xF c xs;unfold dG;split
  .refine⟨by simp only[Qaf];omega,λw hw=>?_⟩;rcases Qad.mp hw with z|z
   .subst z;exact⟨by simp,λx hx=>by cases hx⟩
   .obtain⟨a,b⟩:=f w z;exact⟨by simp only[Qaf];omega,λy hy=>Qab _ (b y hy)⟩
  .obtain⟨h,t,e⟩:=D5 c xs;rw[e]at h1 f ⊢;refine⟨by simp only[Qaf]at *;omega,λw hw=>?_⟩;rcases Qad.mp hw with z|z
   .subst z;obtain⟨a,b⟩:=f h Qah;refine⟨by simp only[Qaf];omega,λy hy=>?_⟩;rcases Qad.mp hy with z|z
    .rw[z];exact Qah
    .exact Qab _ (b y z)
   .obtain⟨a,b⟩:=f w (Qab _ z);exact⟨by simp only[Qaf];omega,λy hy=>Qab _ (b y hy)⟩
def Wds(l:Ab Nat):Ab (Ab Nat):=dG 32 l
def rJ(h:Ls l){env:En}{fa:En->Aa D}(f:fa env=some (SS l)):nC fa (kS " ") env=some (.lst ((Wds l).map SS)):=by
 have e:jE (mkS l) (Str.ofString " ")=(Wds l).map mkS:=by
  rw[zO];have:=Z3c (mkS l) 32 (by
   rw[Array.all_eq_true_iff_forall_mem];intro x b;have a:x∈(mkS l).cps.toList:=by simpa using b
   rw[cU]at a;exact Rk (by have:=h.1 x a;omega)) (by decide)
  rw[cU]at this;exact this
 have j:=(xF 32 l).1;have i:=h.2;unfold nC;rw[f];show(if ((Str.ofString " ").length==0)=false/\(mkS l).length<=5000/\(jE (mkS l) (Str.ofString " ")).length<=1000 then some (D.lst ((jE (mkS l) (Str.ofString " ")).map .str)) else none)=_;rw[e,if_pos ⟨by decide +kernel,by rw[jW];omega,by rw[Qaa];show(dG 32 l).length<=1000;omega⟩,QaV];rfl
def kP(ws:Ab (Ab Nat)):flats (ws.map SS)=true:=mK λd hd=>by
 obtain⟨i,_,rfl⟩:=QaG.mp hd;rfl
def wD(a:fa env=some (.lst ((w::ws).map SS))):fSl fa (fP (kI 1)) gG env=some (.lst (ws.map SS)):=by
 unfold fSl;rw[a];show(if flats ((w::ws).map SS)=true then some (D.lst (PD.cutD ((w::ws).map SS) (some 1) none)) else none)=_;rw[if_pos (kP _),Qak,Z4c]
def rX(a:fa env=some (.lst ((w::ws).map SS))):fIx fa (fC (.int 0)) env=some (SS w):=by
 rw[ev_Ix,a,ev_C,Qak];exact atI_0 _ _
def Z8j{ws:Ab (Ab Nat)}{env:En}{fa:En->Aa D}(a:fa env=some (.lst (ws.map SS))):fB1 bV (aC fa aH) env=some (.int (ws.length:Int)):=by
 rw[cM (xs:=[.lst (ws.map SS)]) (aI a rfl) (show bV [.lst (ws.map SS)]=some (.int (ws.length:Int)) by simp only[bV,Qaa])]
def eqS(hs:s=mkS k)(a:fa env=some (SS w)):fEq fa (fC (.str s)) env=some (decide (w=k)):=by
 rw[ev_Eq,a,ev_C];show eqN 8 (.str (mkS w)) (.str s)=_;rw[hs,eqN_str,pP]
def kIns:Ab Nat:=[105,110,115]
def kOuts:Ab Nat:=[111,117,116,115]
def vX:Ab Nat:=[102,105,120]
def O5:Ab Nat:=[110,111,116]
def Z4:Ab Nat:=[97,110,100]
def kOr:Ab Nat:=[111,114]
def Z3:Ab Nat:=[120,111,114]
def ZaQ:Str.ofString "ins" = mkS kIns:=by decide +kernel
def Z4Y:Str.ofString "outs" = mkS kOuts:=by decide +kernel
def Z55:Str.ofString "fix" = mkS vX:=by decide +kernel
def Z8U:Str.ofString "not" = mkS O5:=by decide +kernel
def Z8X:Str.ofString "and" = mkS Z4:=by decide +kernel
def ZaL:Str.ofString "or" = mkS kOr:=by decide +kernel
def Z8S:Str.ofString "xor" = mkS Z3:=by decide +kernel
def gQ(h:m<10):cD m=[48+m]:=by
 have a:∀d:Fin 10,(Nat.digitChar d).toNat=48+d:=by decide
 unfold cD;rw[Nat.toDigits_of_lt_base h];exact congrArg (λz=>[z]) (a ⟨m,h⟩)
def pL(h:10<=m):cD m=cD (m/10)++[48+m%10]:=by
 have a:m%10<10:=Nat.mod_lt m (by decide);have t:Nat.toDigits 10 (m/10)++Nat.toDigits 10 (m%10)=Nat.toDigits 10 (10*(m/10)+m%10):=Nat.toDigits_append_toDigits (by decide) (by omega) a;rw[Nat.div_add_mod]at t;rw[<- gQ a];unfold cD;rw[<- t,Qaw]
def yG(m:Nat):∀c∈cD m,48<=c/\c<58:=by
 induction m using Nat.strongRecOn with
 |_ m ih =>
  intro c hc;by_cases h:m<10
  .rw[gQ h]at hc;have:=QaS.mp hc;omega
  .rw[pL (by omega)]at hc;rcases Qai.mp hc with z|z
   .exact ih (m/10) (by omega) c z
   .have:=QaS.mp z;omega
def N3(m:Nat):cD m≠[]:=by
 by_cases h:m<10
 .rw[gQ h];simp
 .rw[pL (by omega)];simp
theorem yF:∀(k m:Nat),m<10^(k+1)->(cD m).length<=k+1
 |0,m,h=>by rw[gQ (by omega)];simp
 |k+1,m,h=>by
  by_cases h1:m<10
  .rw[gQ h1];simp
  .have:=yF k (m/10) (by rw[Nat.pow_succ]at h;omega);rw[pL (by omega),Qam,QaX];omega
def Z3S(m:Nat):(cD m).head?=some 48->m=0:=by
 induction m using Nat.strongRecOn with
 |_ m ih =>
  intro a;by_cases h:m<10
  .rw[gQ h]at a;simp only[List.head?_cons,Qbv]at a;omega
  .rw[pL (by omega)]at a;have b:=N3 (m/10);cases e:cD (m/10) with
   |nil=>exact absurd e b
   |cons c r =>
    have:=ih (m/10) (by omega) (by rw[e]at a ⊢;simpa using a);omega
def X9(m:Nat):dvI (cD m)=(m:Int):=by unfold dvI cD;rw[PySem.W.KIN.val_back]
def Z2p(h:m<1000000000):okN (cD m)=true:=by
 have h1:=yF 8 m (by omega);have b:=N3 m;have e:(cD m).all dig=true:=Qa9.mpr λc hc=>by have:=yG m c hc;unfold dig;exact Rk (by omega)
 unfold okN;rw[e,Rj b,Rk h1];by_cases a:(cD m).head?=some 48
 .have:=Z3S m a;subst this;decide
 .rw[Rj a];rfl
def Z8c(m:Nat):Z8d (m:Int)=mkS (cD m):=by rw[<- Z62 (Z8d (m:Int)),Z3R]
def ZaI{n:Int}(a:0<=n)(h1:n<1000000000):(if n.natAbs.log2<1920 then some (D.str (Str.ofString (toString n))) else none)=some (SS (cD n.toNat)):=by
 have:n.natAbs.log2<1920:=by
  rcases Nat.eq_zero_or_pos n.natAbs with z|z
  .rw[z];decide
  .rw[Nat.log2_lt (QbC z)];have h1:n.natAbs<1000000000:=by omega
   exact QaJ h1 (QaC (show 1000000000<=2^30 by decide) (Qa6 (by decide) (by decide)))
 rw[if_pos this];obtain⟨m,rfl⟩:=Int.eq_ofNat_of_zero_le a;show some (D.str (Z8d (m:Int)))=_;rw[Z8c];rfl
def Z08{n:Int}(a:0<=n)(h1:n<1000000000):wC [.int n]=some (SS (cD n.toNat)):=ZaI a h1
def Z1u{n:Int}(a:0<=n)(h1:n<1000000000):sT [.int n]=some (SS (cD n.toNat)):=ZaI a h1
def Wo(k:Nat)(l:Ab Nat):Prop:=(∀c∈l,c<128/\c≠32)/\l≠[]/\l.length<=k
def J2(h:m<10^(k+1)):Wo (k+1) (cD m):=⟨λc hc=>by have:=yG m c hc;omega,N3 m,yF k m h⟩
def Wo.ls(h:Wo k l)(a:k<=400):Ls l:=⟨λc hc=>(h.1 c hc).1,QaC h.2.2 a⟩
def Wo.mono(h:Wo k l)(a:k<=k'):Wo k' l:=⟨h.1,h.2.1,QaC h.2.2 a⟩
def jn:Ab (Ab Nat)->Ab Nat
 |[]=>[]
 |w::ws=>nJ w ws
theorem C4:∀{ws:Ab (Ab Nat)},(∀w∈ws,Wo k w)->(ws.flatMap λv=>32::v).length<=ws.length*(k+1)
 |[],_=>by simp
 |w::ws,h=>by
  have h1:=C4 (ws:=ws) λv hv=>h v (Qab _ hv);have a:=(h w Qah).2.2;simp only[List.flatMap_cons,Qam,Qaf,Nat.add_mul,Nat.one_mul];omega
def Z5(h:∀w∈ws,Wo k w)(e:ws.length*(k+1)<=400):Ls (jn ws):=by
 cases ws with
 |nil=>exact⟨λc hc=>(by cases hc),by decide⟩
 |cons w ws =>
  have h1:=C4 (ws:=ws) λv a=>h v (Qab _ a);have hw:=h w Qah;refine⟨λc hc=>?_,?_⟩
  .rcases Qai.mp hc with z|z
   .exact(hw.1 c z).1
   .obtain⟨v,a,b⟩:=List.mem_flatMap.mp z;rcases Qad.mp b with rfl|q
    .decide
    .exact((h v (Qab _ a)).1 c q).1
  .show(w++ws.flatMap λv=>32::v).length<=400;have:=hw.2.2;simp only[Qaf,Nat.add_mul,Nat.one_mul]at e;rw[Qam];omega
def O6(h:∀w∈ws,Wo k w)(a:ws≠[]):Wds (jn ws)=ws:=by
 cases ws with
 |nil=>exact absurd rfl a
 |cons w ws=>exact uV (λz=>((h w Qah).1 32 z).2 rfl) λv hv z=>((h v (Qab _ hv)).1 32 z).2 rfl
def xA(ws:Ab (Ab Nat)):nS (ws.map SS)=some (ws.map mkS):=by
 induction ws with
 |nil=>rfl
 |cons w ws ih=>show(nS (ws.map SS)).map _=_;rw[ih];rfl
def wP(h:∀w∈ws,Wo k w)(b:ws.length*(k+1)<=400){env:En}{fa:En->Aa D}(e:fa env=some (.lst (ws.map SS))):iI (kS " ") fa env=some (SS (jn ws)):=by
 have hs:∀{us:Ab (Ab Nat)},(∀w∈us,Wo k w)->((us.map mkS).map (·.length)).sum<=us.length*k:=by
  intro us
  induction us with
  |nil=>intro _;simp
  |cons w us ih =>
   intro a;have h1:=ih λv hv=>a v (Qab _ hv);have j:=(a w Qah).2.2;simp only[Qak,List.sum_cons,Qaf,jW,Nat.add_mul,Nat.one_mul];omega
 have n:=hs h;have i:((ws.map mkS).map (·.length)).sum+(ws.map mkS).length*(Str.ofString " ").length<=1000000:=by
  rw[zO];show _+_*1<=_;rw[Nat.mul_add,Nat.mul_one]at b;rw[Qaa,Nat.mul_one];omega
 have f:Txt.join (Str.ofString " ") (ws.map mkS)=mkS (jn ws):=by
  rw[zO];cases ws with
  |nil=>rfl
  |cons w ws =>
   rw[Qak,Z3Z,cU,QaV];show mkS (nJ w (ws.map λl=>(mkS l).cps.toList))=mkS (nJ w ws);congr 2
   conv=>rhs;rw[<- List.map_id ws]
   exact Qbh λl _=>cU l
 unfold iI;rw[e];simp only[fC,xA,i,Rm,f];rfl
theorem Z6k:∀(ws:Ab (Ab Nat)),inD (SS k) (ws.map SS)=some (decide (k∈ws))
 |[]=>rfl
 |w::ws=>by
  have e:eqN 8 (SS w) (SS k)=some (decide (w=k)):=by
   show eqN 8 (.str (mkS w)) (.str (mkS k))=_;rw[eqN_str,pP]
  rw[Qak];unfold inD;rw[e,Z6k ws];simp only[Qbv,Qad,Bool.decide_or];congr 1;exact decide_eq_decide.mpr eq_comm
def Z0h{ws:Ab (Ab Nat)}{env:En}{fa:En->Aa D}(a:fa env=some (.lst (ws.map SS))):fIn (kS "") fa env=some (decide ([]∈ws)):=by
 unfold fIn;rw[a];show inD (.str "") (ws.map SS)=_;rw[K4];exact Z6k ws
def zB:Flt->Ab Int
 | .none=>[]
 | .wire w b=>[w,b]
 | .leg w l b=>[w,l,b]
def bZ(ns:Ab Int):Ab (Ab Nat):=ns.map λn=>cD n.toNat
def Nm(n:Int):Prop:=0<=n/\n<1000000000
def oB(h:∀n∈ns,Nm n):∀w∈bZ ns,Wo 9 w:=λw hw=>by
 obtain⟨n,a,rfl⟩:=QaG.mp hw;have:=h n a;exact J2 (k:=8) (by unfold Nm at this;omega)
def eN(ls:Ab (Ab (Ab Nat)))(w:Ab Nat):Ab (Ab (Ab Nat)):=if w=[47] then ls++[[]] else ls.dropLast++[ls.getLastD []++[w]]
def Z6m(ws:Ab (Ab Nat)):Ab (Ab (Ab Nat)):=ws.foldl eN [[]]
def Z4S(ls:Ab (Ab (Ab Nat)))(w:Ab Nat):eN ls w≠[]:=by unfold eN;split<;>simp
def J8:Str.ofString "/" = mkS [47]:=by decide +kernel
def LW(ls:Ab (Ab (Ab Nat))):Ab D:=ls.map λl=>.lst (l.map SS)
def Z3b(ls:Ab (Ab (Ab Nat)))(w:Ab Nat):(eN ls w).length<=ls.length+1:=by
 unfold eN;split
 .simp
 .rw[Qam,List.length_dropLast,QaX];omega
theorem uH:∀(ws:Ab (Ab Nat)) (ls:Ab (Ab (Ab Nat))),(ws.foldl eN ls).length<=ls.length+ws.length
 |[],ls=>by simp
 |w::ws,ls=>by
  have h1:=uH ws (eN ls w);have a:=Z3b ls w;simp only[Qbs,Qaf];omega
def Z4T{P:Ab Nat->Prop}{n:Nat}{ls:Ab (Ab (Ab Nat))}{w:Ab Nat}(h:∀l∈ls,(∀v∈l,P v)/\l.length<=n)(hw:P w):∀l∈eN ls w,(∀v∈l,P v)/\l.length<=n+1:=by
 intro l a;unfold eN at a;split at a
 .rcases Qai.mp a with z|z
  .exact⟨(h l z).1,Nat.le_succ_of_le (h l z).2⟩
  .rw[QaS.mp z];exact⟨λv hv=>(by cases hv),by simp⟩
 .rcases Qai.mp a with z|z
  .exact⟨(h l (List.dropLast_subset _ z)).1,Nat.le_succ_of_le (h l (List.dropLast_subset _ z)).2⟩
  .rw[QaS.mp z];have b:(∀v∈ls.getLastD [],P v)/\(ls.getLastD []).length<=n:=by
    cases hq:ls.getLast? with
    |none=>rw[List.getLastD_eq_getLast?,hq];exact⟨λv hv=>(by cases hv),by simp⟩
    |some g=>rw[List.getLastD_eq_getLast?,hq];exact h g (List.mem_of_getLast? hq)
   refine⟨λv hv=>?_,by rw[Qam,QaX];omega⟩;rcases Qai.mp hv with z|z
   .exact b.1 v z
   .rw[QaS.mp z];exact hw
theorem zA{P:Ab Nat->Prop}:∀(ws:Ab (Ab Nat)) (n:Nat) (ls:Ab (Ab (Ab Nat))),(∀w∈ws,P w)->(∀l∈ls,(∀v∈l,P v)/\l.length<=n)->∀l∈ws.foldl eN ls,(∀v∈l,P v)/\l.length<=n+ws.length
 |[],n,ls,_,h=>h
 |w::ws,n,ls,hw,h=>by
  have:=zA ws (n+1) (eN ls w) (λv hv=>hw v (Qab _ hv)) (Z4T h (hw w Qah));intro l e;obtain⟨a,b⟩:=this l e;exact⟨a,by simp only[Qaf];omega⟩
theorem Z0c:∀(ws:Ab (Ab Nat)) {ls:Ab (Ab (Ab Nat))},ls≠[]->ws.foldl eN ls≠[]
 |[],ls,h=>h
 |w::ws,ls,h=>Z0c ws (Z4S ls w)
def R8(a b:Ab (Ab (Ab Nat))):LW (a++b)=LW a++LW b:=by unfold LW;rw[Qaw]
theorem uM(hne:ws≠[])(h:∀w∈ws,Wo k w)(hl:ws.length*(k+1)<=400):jI C [.lst (ws.map SS)]=some (.lst ((Z6m ws).map λl=>SS (jn l))):=by
 have hl1:ws.length<=400:=QaC (Nat.le_mul_of_pos_right _ (by omega)) hl;have hin:=zA (P:=Wo k) ws 0 [[]] h (λl hl=>by rw[QaS.mp hl];exact⟨λv hv=>(by cases hv),by simp⟩);have hgl:=uH ws [[]];simp only[QaX]at hgl;refine aZ ?_;show jL C [oF (.lst (ws.map SS)),none,none]=_;unfold jL;refine sNo ?_ ?_
 .cases ws with
  |nil=>exact absurd rfl hne
  |cons w ws=>rfl
 refine gO (d:=.lst [.lst []]) rfl ?_;refine iG (ds:=ws.map SS) rfl (λi env=>∃x,env=[oF (.lst (ws.map SS)),oT (.lst (LW ((ws.take i).foldl eN [[]]))),x]) ⟨none,rfl⟩ ?_ ?_
 .rintro i d env hd ⟨x,rfl⟩;obtain⟨w,hw,rfl⟩:=dW hd;have hL:=uH (ws.take i) [[]];have hin':=zA (P:=Wo k) (ws.take i) 0 [[]] (λv hv=>h v (Qbx hv)) (λl hl=>by rw[QaS.mp hl];exact⟨λv hv=>(by cases hv),by simp⟩);have hne':=Z0c (ws.take i) (ls:=[[]]) (by simp);have hst:(ws.take (i+1)).foldl eN [[]]=eN ((ws.take i).foldl eN [[]]) w:=by rw[Qbm,hw,Qbw];rfl
  have hti:(ws.take i).length<=400:=by rw[Qat];omega
  generalize (ws.take i).foldl eN [[]]=L at *
  simp only[QaX]at hL;have e1:=eqS (w:=w) J8 (show aD 2 [oF (.lst (ws.map SS)),oT (.lst (LW L)),oF (SS w)]=some (SS w) from rfl)
  refine⟨_,[oF (.lst (ws.map SS)),oT (.lst (LW (eN L w))),oF (SS w)],rfl,?_,oF (SS w),by rw[hst]⟩;show rIf _ _ _ [oF (.lst (ws.map SS)),oT (.lst (LW L)),oF (SS w)]=_;unfold rIf;rw[e1];by_cases hs:w=[47]
  .rw[Rk hs];show fU 1 (dN aH) _=_;rw[hJ (d:=.lst []) rfl rfl (by unfold LW;rw[Qaa];omega)];unfold eN;rw[if_pos hs,R8];rfl
  .rw[Rj hs];obtain⟨L0,g,rfl⟩:∃L0 g,L=L0++[g]:=by
    rcases List.eq_nil_or_concat L with z|⟨L0,g,z⟩
    .exact absurd z hne'
    .exact⟨L0,g,by rw[z,List.concat_eq_append]⟩
   have hg:=(hin' g (by simp)).2;have e2:eN (L0++[g]) w=L0++[g++[w]]:=by
    unfold eN;rw[if_neg hs,List.dropLast_concat,List.getLastD_concat]
   have e3:ixN (LW (L0++[g])).length (-1)=some L0.length:=by
    unfold ixN LW;rw[Qaa,Qam,QaX,if_neg (by decide),if_pos (by omega)];congr 1;omega
   have e4:(LW (L0++[g]))[L0.length]?=some (.lst (g.map SS)):=by
    rw[R8,QaW (by unfold LW;rw[Qaa];exact Qan _)];unfold LW;rw[Qaa,Nat.sub_self];rfl
   have e5:(LW (L0++[g])).set L0.length (.lst (g.map SS++[SS w]))=LW (L0++[g++[w]]):=by
    have hl0:(LW L0).length=L0.length:=by unfold LW;rw[Qaa]
    rw[R8,R8,List.set_append_right _ _ (by omega),hl0,Nat.sub_self];unfold LW;simp
   show pJ 1 (fC (.int (-1))) (bC (aD 2)) [oF (.lst (ws.map SS)),oT (.lst (LW (L0++[g]))),oF (SS w)]=_;unfold pJ;rw[show bC (aD 2) [oF (.lst (ws.map SS)),oT (.lst (LW (L0++[g]))),oF (SS w)]=some (SS w) from rfl]
   show(match ixN (LW (L0++[g])).length (-1) with|some j=>_|none=>_)=_
   rw[e3];show(match (LW (L0++[g]))[L0.length]? with|some (.lst es)=>_|_=>_)=_
   rw[e4];show(if (g.map SS).length<=1000/\flats (g.map SS)=true/\flat (SS w)=true then _ else _)=_;rw[if_pos ⟨by rw[Qaa];omega,kP g,rfl⟩,e5,e2];rfl
 .rintro env ⟨x,rfl⟩;rw[Qaa,QaD];show bQ _ _=_;refine bW ?_;rw[bI (λl=>.lst (l.map SS)) (λl=>SS (jn l)) (xs:=ws.foldl eN [[]]) rfl (by omega) (λl hl'=>by
   obtain⟨a,b⟩:=hin l hl';rw[Qa7]at b;exact wP a (QaC (Nat.mul_le_mul_right _ b) hl) rfl)]
  rfl
def kNew:Ab Nat:=[110,101,119]
def kNamed:Ab Nat:=[110,97,109,101,100]
def Z4Z:Str.ofString "new" = mkS kNew:=by decide +kernel
def Z8V:Str.ofString "named" = mkS kNamed:=by decide +kernel
def Z9p(a:ws≠[])(h:∀w∈kNew::ws,Wo k w)(b:(kNew::ws).length*(k+1)<=400):dF C [SS (jn (kNew::ws))]=some (.tup [.str "new",.lst ((Z6m ws).map λl=>SS (jn l))]):=by
 have cl:=uM (C:=C) a (λw hw=>h w (Qab _ hw)) (QaC (Nat.mul_le_mul_right _ (by simp)) b);refine aZ ?_;show gI C [oF (SS (jn (kNew::ws))),none,none]=_;unfold gI;refine gO (rJ (Z5 h b) rfl) ?_;rw[O6 h (by simp)];generalize SS (jn (kNew::ws))=L;show aM _ _ [oF L,oT (.lst ((kNew::ws).map SS)),none]=_;have e:([]:Ab Nat)∉kNew::ws:=λz=>(h [] z).2.1 rfl;refine sNo (by rw[Z0h rfl,Rj e]) ?_;refine tE (by rw[eqS (w:=kNew) Z4Z (rX (w:=kNew) (ws:=ws) rfl)];rfl) (lY ?_);rw[ev_Tup,aI (d:=.str "new") rfl (aI (aJ (xs:=[.lst (ws.map SS)]) (aI (wD (w:=kNew) rfl) rfl) cl) rfl)];rfl
def on_wire(h:-(2^64)<o/\o<2^64\/∀w b,f=.wire w b->b=0\/b=1):fZ C [.int v,.int w,.int o,f.d]=some (.int (cC v w o f)):=by
 cases f with
 |none=>simp[fZ,runF,enStart,mI,Flt.d,PD.flat,cC]
 |wire w' b =>
  by_cases hw:w'=w
  .have a:IntMulOk o b:=h.elim (λz=>pO z.1 z.2) λz=>by rcases z w' b rfl with z|z<;>(subst z;exact pN (by decide) (by decide))
   simp[fZ,runF,enStart,mI,Flt.d,PD.flat,cC,atI_0,atI_1,atI_2,eqN_str,eqN_int,hw,a]
  .simp[fZ,runF,enStart,mI,Flt.d,PD.flat,cC,atI_0,atI_1,atI_2,eqN_str,eqN_int,hw]
 |leg w' l b =>
  simp[fZ,runF,enStart,mI,Flt.d,PD.flat,cC,atI_0,atI_1,atI_2,eqN_str,eqN_int,ZaM]
def leg_wires(r:Row):eT C [r.d]=some (LI r.ws):=by
 cases r with
 |fix b=>simp[eT,runF,enStart,kZ,atI_0,eqN_str,Row.d,LI,Row.ws]
 |not a=>simp[eT,runF,enStart,kZ,atI_0,eqN_str,Row.d,LI,Row.ws,Z3j,fSl,flats,PD.flat,Z4c,Z0Y,jR]
 |bin k a b=>simp[eT,runF,enStart,kZ,atI_0,eqN_str,Row.d,LI,Row.ws,Z3s,fSl,flats,PD.flat,Z4c,Z0Y,jR]
def Z4d(env:En)(he:env=[oF (LI vs)])(ws:Ab Int)(h:∀a∈ws,0<=a/\a<vs.length):dM fTT (bC (fIx (aD 1) (aD 0))) env (ws.map D.int)=some ((ws.map (nth vs)).map D.int):=by
 subst he;rw[uL D.int (λa=>.int (nth vs a)) ws λa ha=>by simp[LI,iE (h a ha).1 (h a ha).2,PD.flat]];simp[Function.comp_def]
def leg_values(hw:∀a∈r.ws,0<=a/\a<vs.length)(q:∀w' l b,f=.leg w' l b->w'=w->0<=l/\l<r.ws.length)(p:∀w' l b,f=.leg w' l b->IntMulOk o b) :
  eJ C [r.d,.int w,LI vs,.int o,f.d]=some (LI (legs r w vs o f)):=by
 have i:r.ws.length<=1000:=by cases r<;>simp[Row.ws]
 have e:∀x:D,bL [2] (cR (aL (eT C) [] (aC (aD 0) aH))) fTT (bC (fIx (aD 1) (aD 0))) [oF r.d,oF (.int w),oF (LI vs),oF (.int o),oF x,none]=some (LI (r.ws.map (nth vs))):=by
  intro x;simp only[bL,cR,aL,aC,aD,aH,Qaz,QaN,Qav,Qa3,QaP,leg_wires,LI,Qaa,i,Rm];rw[Z4d (vs:=vs) (kQ [2] _) (by simp[kQ,LI]) r.ws hw];rfl
 cases f with
 |none=>simp[eJ,runF,enStart,iB,e,Flt.d,jA,legs]
 |wire w' b=>simp[eJ,runF,enStart,iB,e,Flt.d,jA,legs,atI_0,eqN_str,ZaK]
 |leg w' l b =>
  by_cases h:w'=w
  .subst h;obtain⟨t,l1⟩:=q _ l b rfl rfl;have j:=p _ l b rfl;simp only[LI]at e;have n:flats (List.map (D.int ∘ nth vs) r.ws)=true:=by have:=dP (r.ws.map (nth vs));simpa using this
   simp[eJ,runF,enStart,iB,e,Flt.d,jA,legs,atI_0,atI_1,atI_2,atI_3,eqN_str,eqN_int,W7,j,LI,O7 t (by simpa using l1),n,PD.flat,List.map_set]
  .simp[eJ,runF,enStart,iB,e,Flt.d,jA,legs,atI_0,atI_1,atI_2,eqN_str,eqN_int,h]
def gate_value(f:ls.length=r.ws.length)(h:∀b,r=.fix b->IntMulOk o b):fE C [r.d,LI ls,.int o]=some (.int (iR r ls o)):=by
 cases r with
 |fix b =>
  have:=h b rfl;simp[fE,runF,enStart,jY,Row.d,atI_0,atI_1,PD.flat,eqN_str,this,iR]
 |not a =>
  have e:atI (ls.map D.int) 0=some (.int (nth ls 0)):=iE (by decide) (by simp[Row.ws]at f;omega);simp[fE,runF,enStart,jY,Row.d,atI_0,atI_1,PD.flat,eqN_str,iR,Z3j,LI,e]
 |bin k a b =>
  have e:atI (ls.map D.int) 0=some (.int (nth ls 0)):=iE (by decide) (by simp[Row.ws]at f;omega);have h1:atI (ls.map D.int) 1=some (.int (nth ls 1)):=iE (by decide) (by simp[Row.ws]at f;omega);cases k<;>simp[fE,runF,enStart,jY,Row.d,atI_0,atI_1,PD.flat,eqN_str,iR,Z3s,ZaO,ZaP,ZaN,LI,e,h1]
def borne(hs:ss.length+rows.length<=1000)(A:RowsOk ss.length rows)(q:FltOk ss.length rows f) :
  O0 C [bD C ins rows outs,LI ss,.int o,f.d]=some (LI (eO o f (cH o f [] ss) rows)):=by
 have t:∀v w,fZ C [.int v,.int w,.int o,f.d]=some (.int (cC v w o f)):=λv w=>on_wire (.inr q.w);refine aZ ?_;unfold Z2F;refine gO (d:=.lst []) (by walk_at "ev") ?_;refine iG (ds:=ss.map D.int) (by walk_at "ev";rfl) (λi env=>∃s,env=[oF (bD C ins rows outs),oF (LI ss),oF (.int o),oF f.d,oT (LI (cH o f [] (ss.take i))),s,none,none,none]) ⟨none,rfl⟩ ?_ ?_
 .rintro i d env hd ⟨s,rfl⟩;obtain⟨x,h,rfl⟩:=dW hd;refine⟨_,_,rfl,?_,oF (.int x),rfl⟩;have hi:i<ss.length:=(Qae.mp h).1;have p:(cH o f [] (ss.take i)).length<=1000:=by rw[gX];simp;omega
  rw[cY h,mP];simp[fU,bV,LI,t,p,Qaw]
 rintro env ⟨s1,rfl⟩;rw[Qaa,QaD];refine iG (dS (sC (by rfl))) (λi env=>∃s a b c,env=[oF (bD C ins rows outs),oF (LI ss),oF (.int o),oF f.d,oT (LI (eO o f (cH o f [] ss) (rows.take i))),s,a,b,c]) ⟨s1,none,none,none,rfl⟩ ?_ ?_
 .rintro i d env hd ⟨s,a,b,c,rfl⟩;obtain⟨r,h,rfl⟩:=dW hd;have hi:i<rows.length:=(Qae.mp h).1;have n:(eO o f (cH o f [] ss) (rows.take i)).length=ss.length+i:=by rw[tG,gX];simp;omega
  generalize hvs:eO o f (cH o f [] ss) (rows.take i)=vs at n;have j:=A i r h;have u:eJ C [r.d,.int (vs.length:Int),LI vs,.int o,f.d]=some (LI (legs r vs.length vs o f)) :=
   leg_values (λa ha=>by rw[n];exact j.ws a ha) (λw' l b e hw=>q.leg w' l b i r e h (by rw[hw,n])) (λw' l b e=>sS (q.l w' l b e))
  have y:fE C [r.d,LI (legs r vs.length vs o f),.int o]=some (.int (iR r (legs r vs.length vs o f) o)):=gate_value (Z65 _ _ _ _ _) (λb e=>sS (by subst e;exact j));refine⟨_,_,rfl,?_,s,oF r.d,oT (.int vs.length),oT (LI (legs r vs.length vs o f)),rfl⟩;have p:vs.length<=1000:=by omega
  rw[cY h,qJ,hvs];simp only[LI]at u y;simp[fU,bV,LI,t,p,Qaw,u,y]
 rintro env ⟨s2,a2,b2,c2,rfl⟩;rw[Qaa,QaD];rfl
def at_outs(b:outs.length<=1000)(h:∀a∈outs,0<=a/\a<vs.length):tS C [bD C ins rows outs,LI vs]=some (LI (outs.map (nth vs))):=by
 refine aZ ?_;show bQ _ [oF (bD C ins rows outs),oF (LI vs)]=_;unfold bQ;rw[bI D.int (λa=>.int (nth vs a)) (xs:=outs) (dS (zC (by rfl))) b (λa ha=>by simp[kQ,LI,iE (h a ha).1 (h a ha).2,PD.flat])];simp[LI,Function.comp_def]
def lX(n:Nat):(1:Int)*2^(n:Int).toNat=((2^n:Nat):Int):=by rw[Qbt,QaO];simp
def Z2H(n:Nat):(1:Int)*2^((2^n:Nat):Int).toNat-1=bE (2^n):=by rw[Qbt,QaO];rfl
def wL(h:n<=8):(0:Int)<=((2^n:Nat):Int)/\((2^n:Nat):Int)<=256 :=
 ⟨Int.natCast_nonneg _,Int.ofNat_le.mpr (show 2^n<=256 from Qa6 (show 0<2 by decide) h)⟩
def full_table{C:Af}{n:Nat}(h:n<=8):iA C [.int n]=some (.int (bE (2^n))):=by
 obtain⟨a,b⟩:=wL h;have e:lQ 1 (n:Int):=nM (by omega) (by omega);have p2:lQ 1 ((2^n:Nat):Int):=nM a (Int.le_trans b (by decide));have f:=lX n;have i:=Z2H n;unfold iA rZ;clear a b h;walk_at "ev"
def Z0s(n:Nat)(b:Nat->Bool):Builtin.Int.intBits (tab n b)<=n:=by
 rw[PySem.intBits_le_iff];unfold tab;have:=iT n b;simpa using this
def Z4x(n:Nat):Builtin.Int.intBits (bE n)<=n:=by rw[<- rH];exact Z0s n _
def input_tables{C:Af}{n:Nat}(h:n<=8):kL C [.int n]=some (LI (inT n)):=by
 refine aZ ?_;unfold oU;refine gO (d:=.lst []) (by walk_at "ev") ?_;refine iG (ds:=(List.range n).map λ(k:Nat)=>.int (k:Int)) (eY (xs:=[.int (n:Int)]) (by walk_at "ev") (xO (by omega)))
  (λi env=>∃a b,env=[oF (.int n),oT (LI (inT i)),a,b]) ⟨none,none,rfl⟩ ?_ ?_
 .rintro i d env hd ⟨a,b,rfl⟩;obtain⟨hi,rfl⟩:=fJ hd;obtain⟨l,o⟩:=wL (show i<=8 by omega);have f:∀m:Nat,m=2^i->(m:Int)+((2^i:Nat):Int)<=100000000:=λm e=>by subst e;exact Int.le_trans (Int.add_le_add o o) (by decide)
  have w:lQ 1 (i:Int):=nM (by omega) (by omega);have u:=lX i;have x:=full_table (C:=C) (n:=i) (by omega);refine⟨_,_,rfl,?_,oF (.int i),oT (.int ((2^i:Nat):Int)),rfl⟩;refine gO (d:=.int ((2^i:Nat):Int)) (by clear l o f;walk_at "ev") ?_;refine gO (bI D.int (λt=>.int (Builtin.bitOr t (t*2^(2^i)))) (xs:=inT i) (by rfl) (by rw[gC];omega) (λt ht=>?_)) ?_
  .obtain⟨j,p⟩:=Qby ht;have q:j<i:=by have:=(Qae.mp p).1;rwa [gC]at this
   rw[pU i j q]at p;have v:lQ t ((2^i:Nat):Int):=by
    rw[<- QaI p];exact Q3 (Z0s _ _) l (f _ rfl)
   show fI0 _ (aD 0) _ [oF (.int t),oT (.int ((2^i:Nat):Int))]=_;clear l o f p;walk_at "ev";rw[QaO]
  .have r:lQ (bE (2^i)) ((2^i:Nat):Int):=Q3 (Z4x _) l (f _ rfl);refine(hJ (d:=.int (bE (2^i)*2^(2^i))) ?_ rfl (by rw[Qaa,gC];omega)).trans ?_
   .clear l o f;walk_at "ev";rw[QaO]
   .simp only[inT,LI,Qaw,QaV,Qak,QaT];rfl
 .rintro env ⟨a,b,rfl⟩;rw[Qaa,QaU];rfl
def Z36{C:Af}{ins:Nat}{rows:Ab Row}{outs:Ab Int}{f:Flt}(hi:ins<=8)(hs:ins+rows.length<=1000)(i:RowsOk ins rows)(e:FltOk ins rows f) :
  rT C [bD C ins rows outs,f.d]=some (LI (aS ins rows f)):=by
 have a:=gC ins;have b:=borne (C:=C) (ins:=ins) (o:=bE (2^ins)) (rows:=rows) (outs:=outs) (ss:=inT ins) (f:=f) (by rw[a];exact hs) (by rw[a];exact i) (by rw[a];exact e);have it:=input_tables (C:=C) hi;have h:=full_table (C:=C) hi;refine aZ (bW (aJ (xs:=[bD C ins rows outs,LI (inT ins),.int (bE (2^ins)),f.d]) ?_ b));refine aI rfl (aI (aJ (xs:=[.int ins]) (aI (pV (by rfl)) rfl) it) (aI (aJ (xs:=[.int ins]) (aI (pV (by rfl)) rfl) h) (aI rfl rfl)))
def lB(hi:ins<=8)(hs:ins+rows.length<=1000)(e:RowsOk ins rows)(h:FltOk ins rows f)(b:outs.length<=1000)(j:Ho ins rows outs) :
  fD C [bD C ins rows outs,f.d]=some (LI (outs.map (nth (aS ins rows f)))):=by
 have l:=Z36 (C:=C) (outs:=outs) hi hs e h;have i:=at_outs (C:=C) (ins:=ins) (rows:=rows) (outs:=outs) (vs:=aS ins rows f) b (λa ha=>by rw[kT];exact j a ha);exact aZ (bW (aJ (xs:=[bD C ins rows outs,LI (aS ins rows f)]) (aI rfl (aI (aJ (xs:=[bD C ins rows outs,f.d]) rfl l) rfl)) i))
theorem C2:∀(outs:Ab Int),nO ((outs.map (nth A)).map D.int) ((outs.map (nth B)).map D.int)=outs.map λa=>.tup [.int (nth A a),.int (nth B a)]
 |[]=>rfl
 |a::outs=>by simp only[Qak,nO];rw[C2 outs]
def Q2:oJ C [LI (outs.map (nth A)),LI (outs.map (nth B))]=some (.int (uT A B outs)):=by
 refine aZ ?_;unfold vH;refine gO (d:=.int 0) (by walk_at "ev") ?_;refine iG (ds:=outs.map λa=>.tup [.int (nth A a),.int (nth B a)]) (eY (xs:=[LI (outs.map (nth A)),LI (outs.map (nth B))]) rfl (by simp only[Z0y,LI,C2]))
  (λi env=>∃a b,env=[oF (LI (outs.map (nth A))),oF (LI (outs.map (nth B))),oT (.int (uT A B (outs.take i))),a,b]) ⟨none,none,rfl⟩ ?_ ?_
 .rintro i d env hd ⟨a,b,rfl⟩;obtain⟨x,e,rfl⟩:=dW hd;refine⟨_,_,rfl,?_,oF (.int (nth A x)),oF (.int (nth B x)),rfl⟩;rw[Z0L e];rfl
 .rintro env ⟨a,b,rfl⟩;rw[Qaa,QaD];rfl
def C6(ins:Nat)(rows:Ab Row)(outs:Ab Int)(f:Flt):Int:=uT (aS ins rows .none) (aS ins rows f) outs
def U1{C:Af}{ins:Nat}{rows:Ab Row}{outs:Ab Int}{fs:Ab Flt}(hi:ins<=8)(hs:ins+rows.length<=1000)(b:RowsOk ins rows)(i:∀f∈fs,FltOk ins rows f)(a:outs.length<=1000)(e:Ho ins rows outs)(h:fs.length<=1000) :
  qP C [bD C ins rows outs,.lst (fs.map Flt.d)]=some (LI (fs.map (C6 ins rows outs))):=by
 have j:fD C [bD C ins rows outs,.non]=some (LI (outs.map (nth (aS ins rows .none)))):=lB (f:=.none) hi hs b .no a e;refine aZ ?_;unfold yU;refine gO (aJ (xs:=[bD C ins rows outs]) rfl j) ?_;refine bW ?_;rw[bI Flt.d (λf=>.int (C6 ins rows outs f)) (xs:=fs) (by rfl) h (λf hf'=>?_)]
 .simp[LI,Function.comp_def]
 .have of:=lB (C:=C) (outs:=outs) hi hs b (i f hf') a e;exact aJ (xs:=[LI (outs.map (nth (aS ins rows .none))),LI (outs.map (nth (aS ins rows f)))]) (aI rfl (aI (aJ (xs:=[bD C ins rows outs,f.d]) rfl of) rfl)) Q2
def qD(h1:w<((ins+rows.length:Nat):Int)):eI C [bD C ins rows outs,.int w]=some (LI (bH ins rows w)):=by
 have fi:=pV (C:=C) (ins:=ins) (rows:=rows) (outs:=outs) (fa:=aD 0) (env:=[oF (bD C ins rows outs),oF (.int w)]) rfl;have fr:=sC (C:=C) (ins:=ins) (rows:=rows) (outs:=outs) (fa:=aD 0) (env:=[oF (bD C ins rows outs),oF (.int w)]) rfl;refine aZ ?_;show nB C [oF (bD C ins rows outs),oF (.int w)]=_;unfold nB;by_cases h:w<(ins:Int)
 .rw[mH h];refine tE ?_ (lY rfl);clear fr;walk_at "ev"
 .have e:(w-(ins:Int)).toNat<rows.length:=by omega
  have b:=Qaj e;generalize rows[(w-(ins:Int)).toNat]=r at b;have f:=oZ b (a:=w-(ins:Int)) (by omega);rw[mZ (by omega) b];refine sNo (by clear fr f;walk_at "ev") ?_;refine bW (aJ (xs:=[r.d]) (aI ?_ rfl) (leg_wires r));walk_at "ev"
def mM(h1:w<((ins+rows.length:Nat):Int)):cE C [bD C ins rows outs,.int w]=some (LI (dC ins rows w)):=by
 have fi:=pV (C:=C) (ins:=ins) (rows:=rows) (outs:=outs) (fa:=aD 0) (env:=[oF (bD C ins rows outs),oF (.int w)]) rfl;have fr:=sC (C:=C) (ins:=ins) (rows:=rows) (outs:=outs) (fa:=aD 0) (env:=[oF (bD C ins rows outs),oF (.int w)]) rfl;refine aZ ?_;show jM C [oF (bD C ins rows outs),oF (.int w)]=_;unfold jM dC;by_cases h:w<(ins:Int)
 .have h':¬(ins:Int)<=w:=by omega
  rw[if_pos h];refine sNo (by clear fr;walk_at "ev") rfl
 .have h':(ins:Int)<=w:=by omega
  have j:(w-(ins:Int)).toNat<rows.length:=by omega
  have e:=Qaj j;generalize rows[(w-(ins:Int)).toNat]=r at e;have f:=oZ e (a:=w-(ins:Int)) (by omega);rw[if_neg h,e];cases r with
  |fix b =>
   have i:=Z7z;simp only[Row.d]at f;refine tE (by walk_at "ev") (lY ?_);simp only[LI,Qak,QaT];walk_at "ev"
  |not a =>
   have i:=Z3j;simp only[Row.d]at f;exact sNo (by walk_at "ev") rfl
  |bin k a b =>
   have i:=Z3s k;simp only[Row.d]at f;exact sNo (by walk_at "ev") rfl
def Zc0{a b:Int}{n:Nat}(h:a-b=(n:Int))(h1:-1000<=b)(e:a<=1000):Z0z [.int a,.int b,.int (-1)]=some ((List.range n).map λ(k:Nat)=>.int (a-(k:Int))):=by
 simp only[Z0z];rw[if_pos (by refine⟨⟨by omega,by omega,by omega,by omega⟩,trivial⟩),h,QaO]
def Z3T{C:Af}{ins:Nat}{rows:Ab Row}{outs:Ab Int}(hs:ins+rows.length<64)(n:outs.length<=100)(h:RowsOk ins rows)(e:Ho ins rows outs) :
  yL C [bD C ins rows outs]=some (LI (oH ins rows outs)):=by
 refine aZ ?_;unfold Z02;refine gO (d:=dKT []) rfl ?_;refine iG (dS (zC (by rfl))) (λi env=>∃a,env=[oF (bD C ins rows outs),oT (dKT (fG [] (outs.take i))),a,none,none]) ⟨none,rfl⟩ ?_ ?_
 .rintro i d env hd ⟨a,rfl⟩;obtain⟨x,f,rfl⟩:=dW hd;refine⟨_,_,rfl,xU (ks:=fG [] (outs.take i)) (k:=x) rfl rfl rfl ?_,oF (.int x),by rw[vQ f];rfl⟩;have:=rB (xs:=outs.take i) (ks:=[]);rw[Qat,Qa8]at this;omega
 rintro env ⟨a,rfl⟩;rw[Qaa,QaD];have r:bV [.lst (rows.map Row.d)]=some (.int (rows.length:Int)):=by simp only[bV,Qaa]
 refine iG (ds:=(List.range rows.length).map λ(k:Nat)=>.int (((ins+rows.length:Nat):Int)-1-(k:Int))) (eY (xs:=[.int (((ins+rows.length:Nat):Int)-1),.int ((ins:Int)-1),.int (-1)]) ?_ (Zc0 (by omega) (by omega) (by omega)))
  (λi env=>∃a b c,env=[oF (bD C ins rows outs),oT (dKT (gD ins rows outs i)),a,b,c]) ⟨a,none,none,rfl⟩ ?_ ?_
 .have fi:=pV (C:=C) (ins:=ins) (rows:=rows) (outs:=outs) (fa:=aD 0) (env:=[oF (bD C ins rows outs),oT (dKT (fG [] outs)),a,none,none]) rfl;have fr:=sC (C:=C) (ins:=ins) (rows:=rows) (outs:=outs) (fa:=aD 0) (env:=[oF (bD C ins rows outs),oT (dKT (fG [] outs)),a,none,none]) rfl;rw[show((ins+rows.length:Nat):Int)=(ins:Int)+(rows.length:Int) by omega];clear h e hs n;walk_at "ev"
 .rintro i d env hd ⟨a,b,c,rfl⟩;obtain⟨hi,rfl⟩:=fJ hd;have l:=E8 h e i;by_cases hw:(((ins+rows.length:Nat):Int)-1-(i:Int))∈gD ins rows outs i
  .generalize hW:((ins+rows.length:Nat):Int)-1-(i:Int)=W at *
   have p:=qD (C:=C) (ins:=ins) (rows:=rows) (outs:=outs) (w:=W) (by omega);have q:=gR (ins:=ins) (rows:=rows) (w:=W);obtain⟨o,h1,⟨z,rfl⟩⟩:=W8 (rs:=[]) (src:=cR (aL (eI C) [] (aC (aD 0) (aC (aD 3) aH)))) (t:=gtN 4) (g:=xV 1 (aD 4) (fC (.bl true))) (env:=[oF (bD C ins rows outs),oT (dKT (gD ins rows outs i)),a,oF (.int W),c]) (ds:=(bH ins rows W).map D.int)
    (dS (aJ (xs:=[bD C ins rows outs,.int W]) rfl p))
    (fun j env=>∃ z,env=[oF (bD C ins rows outs),oT (dKT (fG (gD ins rows outs i) ((bH ins rows W).take j))),a,oF (.int W),z]) ⟨c,rfl⟩ (by
     rintro j d env hd ⟨z,rfl⟩;obtain⟨x,f,rfl⟩:=dW hd;refine⟨_,_,rfl,xU (ks:=fG (gD ins rows outs i) ((bH ins rows W).take j)) (k:=x) rfl rfl rfl ?_,oF (.int x),by rw[vQ f];rfl⟩;have:=rB (xs:=(bH ins rows W).take j) (ks:=gD ins rows outs i);rw[Qat]at this;omega)
   rw[Qaa,QaD]at h1;refine⟨_,_,rfl,Z3B ?_ h1,a,oF (.int W),z,?_⟩
   .show Z1z (aD 3) (aD 1) [oF (bD C ins rows outs),oT (dKT (gD ins rows outs i)),a,oF (.int W),c]=some true;simp only[ev_InK,ev_var,Qaz,QaY,QaN,Qav,dKT,keyOf,Y8,hw,decide_true]
   .simp only[gD];rw[hW,if_pos hw]
  .generalize hW:((ins+rows.length:Nat):Int)-1-(i:Int)=W at *
   refine⟨_,_,rfl,Z0Z ?_ rfl,a,oF (.int W),c,?_⟩
   .show Z1z (aD 3) (aD 1) [oF (bD C ins rows outs),oT (dKT (gD ins rows outs i)),a,oF (.int W),c]=some false;simp only[ev_InK,ev_var,Qaz,QaY,QaN,Qav,dKT,keyOf,Y8,hw,decide_false]
   .simp only[gD];rw[hW,if_neg hw];rfl
 rintro env ⟨a,b,c,rfl⟩;rw[Qaa,QaU];have l:=E8 h e rows.length;refine bW (cM (xs:=[dKT (gD ins rows outs rows.length)]) rfl ?_);unfold R9 dKT;simp only[Z1k];rw[if_pos (by omega)];rfl
def Z4z{ins:Nat}{rows:Ab Row}{C:Af}{outs:Ab Int}{w:Int}{base:Ab D}(o:base.length<=900)(f e a:Slot)(l:cE C [bD C ins rows outs,.int w]=some (LI (dC ins rows w))) :
  ∃z,eQ [] (cR (aL (cE C) [] (aC (aD 0) (aC (aD 2) aH)))) (gtN 3) (fU 1 (gU (aC (kS "wire") (aC (bC (aD 2)) (aC (bC (aD 3)) aH)))))
   [oF (bD C ins rows outs),oT (.lst base),oF (.int w),f,e,a]=.next [oF (bD C ins rows outs),oT (.lst (base++((dC ins rows w).map λb=>Flt.wire w b).map Flt.d)),oF (.int w),z,e,a]:=by
 have n:=gW (ins:=ins) (rows:=rows) (w:=w);obtain⟨i,h1,⟨z,rfl⟩⟩:=W8 (rs:=[]) (src:=cR (aL (cE C) [] (aC (aD 0) (aC (aD 2) aH)))) (t:=gtN 3) (g:=fU 1 (gU (aC (kS "wire") (aC (bC (aD 2)) (aC (bC (aD 3)) aH)))))
  (env:=[oF (bD C ins rows outs),oT (.lst base),oF (.int w),f,e,a]) (ds:=(dC ins rows w).map D.int) (dS (aJ (xs:=[bD C ins rows outs,.int w]) rfl l))
  (fun j env=>∃ z,env=[oF (bD C ins rows outs),oT (.lst (base ++ (((dC ins rows w).take j).map fun b=>Flt.wire w b).map Flt.d)),oF (.int w),z,e,a]) ⟨f,by simp [PD.fz]⟩ (by
   rintro j d env hd ⟨z,rfl⟩;obtain⟨x,h,rfl⟩:=dW hd;refine⟨_,_,rfl,hJ (d:=(Flt.wire w x).d) rfl rfl ?_,oF (.int x),?_⟩
   .rw[Qam,Qaa,Qaa,Qat];omega
   .rw[cY h];simp only[Qaw,Qak,QaT,<- Qa1];rfl)
 rw[Qaa,QaD]at h1;exact⟨z,h1⟩
def Z71{ins:Nat}{rows:Ab Row}{C:Af}{outs:Ab Int}{w:Int}{base:Ab D}(H:base.length<=900)(n o h:Slot)(v:eI C [bD C ins rows outs,.int w]=some (LI (bH ins rows w)))(A:∀a∈bH ins rows w,cE C [bD C ins rows outs,.int a]=some (LI (dC ins rows a))) :
  ∃x y z,eQ [] (sB1 J1 (aC (aL (eI C) [] (aC (aD 0) (aC (aD 2) aH))) aH)) (gtT [4,5]) (eQ [] (cR (aL (cE C) [] (aC (aD 0) (aC (aD 5) aH)))) (gtN 3) (fU 1 (gU (aC (kS "leg") (aC (bC (aD 2)) (aC (bC (aD 4)) (aC (bC (aD 3)) aH)))))))
   [oF (bD C ins rows outs),oT (.lst base),oF (.int w),n,o,h]=.next [oF (bD C ins rows outs),oT (.lst (base++(cJ ins rows w 0 (bH ins rows w)).map Flt.d)),oF (.int w),x,y,z]:=by
 have F:=gR (ins:=ins) (rows:=rows) (w:=w);obtain⟨p,h1,⟨x,y,z,rfl⟩⟩:=W8 (rs:=[]) (src:=sB1 J1 (aC (aL (eI C) [] (aC (aD 0) (aC (aD 2) aH))) aH)) (t:=gtT [4,5]) (g:=eQ [] (cR (aL (cE C) [] (aC (aD 0) (aC (aD 5) aH)))) (gtN 3) (fU 1 (gU (aC (kS "leg") (aC (bC (aD 2)) (aC (bC (aD 4)) (aC (bC (aD 3)) aH)))))))
  (env:=[oF (bD C ins rows outs),oT (.lst base),oF (.int w),n,o,h]) (ds:=((bH ins rows w).map D.int).mapIdx λi d=>.tup [.int i,d]) (eY (xs:=[LI (bH ins rows w)]) (aI (aJ (xs:=[bD C ins rows outs,.int w]) rfl v) rfl) (by simp only[J1,LI]))
  (fun j env=>∃ x y z,env=[oF (bD C ins rows outs),oT (.lst (base ++ (cJ ins rows w 0 ((bH ins rows w).take j)).map Flt.d)),oF (.int w),x,y,z]) ⟨n,o,h,by simp [PD.fz,cJ]⟩ (by
   rintro j d env hd ⟨x,y,z,rfl⟩;obtain⟨e,he,rfl⟩:=Z1f hd;obtain⟨a,q,rfl⟩:=dW he;have sa:=A a (QaK q);have E:=gW (ins:=ins) (rows:=rows) (w:=a);have r:=iW (ins:=ins) (rows:=rows) (w:=w) ((bH ins rows w).take j) 0;rw[Qat]at r;generalize hB:base++(cJ ins rows w 0 ((bH ins rows w).take j)).map Flt.d=B at *
   have G:B.length<=950:=by rw[<- hB,Qam,Qaa];omega
   obtain⟨p,h1,⟨f,rfl⟩⟩:=W8 (rs:=[]) (src:=cR (aL (cE C) [] (aC (aD 0) (aC (aD 5) aH)))) (t:=gtN 3) (g:=fU 1 (gU (aC (kS "leg") (aC (bC (aD 2)) (aC (bC (aD 4)) (aC (bC (aD 3)) aH))))))
    (env:=[oF (bD C ins rows outs),oT (.lst B),oF (.int w),x,oF (.int j),oF (.int a)]) (ds:=(dC ins rows a).map D.int) (dS (aJ (xs:=[bD C ins rows outs,.int a]) rfl sa))
    (fun l env=>∃ f,env=[oF (bD C ins rows outs),oT (.lst (B ++ (((dC ins rows a).take l).map fun b=>Flt.leg w (j:Int) b).map Flt.d)),oF (.int w),f,oF (.int j),oF (.int a)]) ⟨x,by simp [PD.fz]⟩ (by
     rintro l d env hd ⟨f,rfl⟩;obtain⟨b,u,rfl⟩:=dW hd;refine⟨_,_,rfl,hJ (d:=(Flt.leg w (j:Int) b).d) rfl rfl ?_,oF (.int b),?_⟩
     .rw[Qam,Qaa,Qaa,Qat];omega
     .rw[cY u];simp only[Qaw,Qak,QaT,<- Qa1];rfl)
   rw[Qaa,QaD]at h1;refine⟨_,_,rfl,h1,f,oF (.int j),oF (.int a),?_⟩;rw[oK q,Qaw,<- Qa1,hB])
 rw[List.length_mapIdx,Qaa,QaD]at h1;exact⟨x,y,z,h1⟩
def lP{C:Af}{ins:Nat}{rows:Ab Row}{outs:Ab Int}(hs:ins+rows.length<64)(q:outs.length<=100)(f:RowsOk ins rows)(j:Ho ins rows outs) :
  fF C [bD C ins rows outs]=some (.lst ((bT ins rows outs).map Flt.d)):=by
 have n:=Z3T (C:=C) hs q f j;have p:=oG f j;have y:=E7 f j;refine aZ ?_;unfold sA bT;generalize oH ins rows outs=N at *
 refine gO (d:=.lst []) rfl ?_;refine iG (ds:=N.map D.int) (dS (aJ (xs:=[bD C ins rows outs]) rfl n))
  (λi env=>∃a b c d,env=[oF (bD C ins rows outs),oT (.lst (((N.take i).flatMap (cS ins rows)).map Flt.d)),a,b,c,d]) ⟨none,none,none,none,rfl⟩ ?_ ?_
 .rintro i d env hd ⟨a,b,c,e,rfl⟩;obtain⟨w,hw,rfl⟩:=dW hd;have h:=p w (QaK hw);have x:i<N.length:=(Qae.mp hw).1;have fl:=sD (ins:=ins) (rows:=rows) (N.take i);rw[Qat]at fl;rw[Z48 hw];generalize hB:(N.take i).flatMap (cS ins rows)=B at *
  have l:(B.map Flt.d).length<=400:=by rw[Qaa];omega
  obtain⟨z,h1⟩:=Z4z (C:=C) (outs:=outs) (w:=w) (base:=B.map Flt.d) (by omega) b c e (mM h.2);have v:=gW (ins:=ins) (rows:=rows) (w:=w);obtain⟨o,t,u,r⟩:=Z71 (C:=C) (outs:=outs) (w:=w) (base:=B.map Flt.d++((dC ins rows w).map λb=>Flt.wire w b).map Flt.d) (by rw[Qam,Qaa,Qaa,Qaa];rw[Qaa]at l;omega) z c e (qD h.2)
   (λa ha=>mM (by have:=kC f ha;omega))
  refine⟨_,_,rfl,Z7t h1 r,oF (.int w),o,t,u,?_⟩;unfold cS;simp only[Qaw,Qa1]
 .rintro env ⟨a,b,c,e,rfl⟩;rw[Qaa,QaD];rfl
def G0(fs:Ab Flt):flats (fs.map Flt.d)=true:=mK λd hd=>by
 obtain⟨f,_,rfl⟩:=QaG.mp hd;exact mJ f
def mR(e:env[j]?=some (some (true,.lst xs)))(a:f env=some (.lst ys))(h1:flats xs=true)(b:xs.length+ys.length<=1000):gJ i j f env=.next (env.set i (some (true,.lst (xs++ys)))):=by
 unfold gJ;simp only[e,a,h1,b,and_self,Rm]
def Z6b(b:0<=k):jH C [LI ns,.int k]=some (.int (nth ns k)):=by
 have i:bV [.lst (ns.map D.int)]=some (.int (ns.length:Int)):=by simp only[bV,Qaa]
 unfold jH Z6s;by_cases h:k<(ns.length:Int)
 .have f:=iE (vs:=ns) b h;simp only[LI];walk_at "ev"
 .have e:=Z2r (l:=ns) (a:=k) (by omega);simp only[LI];walk_at "ev"
def O3(hc:Builtin.Int.intBits c<=1048600)(x:0<=k)(l:k<=100000):∃m,0<=m/\m<2147483648/\gA C [.int c,.int k]=some (.int m):=by
 have u:Zay 10 40:=⟨by decide,by decide,by decide⟩;have p2:lQ 1 (31*(k%60)):=nM (by omega) (by omega);have r:lQ 1 31:=nM (by decide) (by decide);have m1:IntMulOk 31 (k%60):=pO (by decide) (by decide);have m2:IntMulOk c 1103515245:=pN (by decide) (by decide);have w:IntMulOk 7919 k:=pO (by decide) (by decide);have y:IntMulOk (7919*k) k:=pN (by omega) (by omega);have t:(0:Int)<60:=by decide
 have q:(0:Int)<1*2^Int.toNat 31:=by decide
 have j:(0:Int)<2147483629:=by decide
 have o:(0:Int)<2147483587:=by decide
 have a:(0:Int)<2147483647:=by decide
 have v:fS (c-10^Int.toNat 40) (1*2^(31*(k%60)).toNat):=zI (by omega);by_cases h:(10:Int)^Int.toNat 40<=c
 .refine⟨(c-10^Int.toNat 40)/(1*2^(31*(k%60)).toNat)%(1*2^Int.toNat 31),QaB _ (by decide),Qas _ (by decide),?_⟩;unfold gA uE;walk_at "ev"
 .have e:=QaB (c*1103515245+7919*k*k+k) (show(2147483647:Int)≠0 by decide);have b:=Qas (c*1103515245+7919*k*k+k) a;generalize hA:(c*1103515245+7919*k*k+k)%2147483647=A at e b;have n:IntMulOk A A:=pO (by omega) (by omega);have i:=QaB (A*A) (show(2147483629:Int)≠0 by decide);have f:=Qas (A*A) j;generalize hB:A*A%2147483629=B at i f;have p:IntMulOk B 69621:=pN (by decide) (by decide);refine⟨B*69621%2147483587,QaB _ (by decide),Int.lt_trans (Qas _ (by decide)) (by decide),?_⟩;unfold gA uE;walk_at "ev"
def Z8o(r:ns.length<=63)(l:∀c∈ns,Builtin.Int.intBits c<=1048576):∃d,tP C [LI ns,.int 11]=some d/\∃xs:Ab Int,xs.length=11/\(∀x∈xs,0<=x/\x<2147483648)/\d=LI xs:=by
 refine Z7E ?_;unfold F5;have h:bL [] (sB1 fR (aC (aD 1) aH)) fTT (fAd (fMu (aD 0) (aD 0)) (kI 1)) [oF (LI ns),oF (.int 11),none,none,none,none,none]=some (LI ((List.range 11).map λ(k:Nat)=>(k:Int)*(k:Int)+1)):=by
  rw[bI (λ(k:Nat)=>.int (k:Int)) (λ(k:Nat)=>.int ((k:Int)*(k:Int)+1)) (xs:=List.range 11) (eY (xs:=[.int 11]) rfl (Z3y (n:=11) rfl (by decide))) (by decide) (λk o=>?_)]
  .simp[LI,Function.comp_def]
  .have:=Qbn.mp o;have A:IntMulOk (k:Int) (k:Int):=pO (by omega) (by omega);walk_at "ev"
 refine sV h ?_;have t:=dP ns;have u:cutD (ns.map D.int) none (some 63)=ns.map D.int:=(jD (ns.map D.int) 63).trans (Qbo (by simpa using r));refine sV (d:=LI ns) (by simp only[LI];walk_at "ev") ?_;have v:bV [.lst (ns.map D.int)]=some (.int (ns.length:Int)):=by simp only[bV,Qaa]
 refine Z4L (ds:=(List.range (ns.length-2)).map λ(k:Nat)=>.int (2+(k:Int))) (eY (xs:=[.int 2,.int (ns.length:Int)]) (by simp only[LI];walk_at "ev") (Zc1 (by omega) (by decide) (by decide) (by omega) (by omega)))
  (λi env=>∃xs a b c,xs.length=11/\(∀x∈xs,0<=x/\x<2147483648)/\env=[oF (LI ns),oF (.int 11),oT (LI xs),oT (LI ns),a,b,c]) ⟨_,none,none,none,by simp,?_,rfl⟩ ?_ ?_
 .intro x f;obtain⟨k,o,rfl⟩:=QaG.mp f;have o:=Qbn.mp o;have h1:(k:Int)*(k:Int)<=11*11:=Int.mul_le_mul (by omega) (by omega) (by omega) (by omega);have K:0<=(k:Int)*(k:Int):=Int.mul_nonneg (by omega) (by omega);omega
 .rintro i d env R hd ⟨xs,a,b,c,f,hall,rfl⟩ hR;obtain⟨hi,rfl⟩:=fJ hd;refine⟨_,rfl,?_⟩;have w:(0:Int)<11:=by decide
  have p:=QaB (2+(i:Int)) (show(11:Int)≠0 by decide);have G:=Qas (2+(i:Int)) w;generalize hz:(2+(i:Int))%11=z at p G;refine sV (d:=.int z) (by clear hR hall h t u v l;walk_at "ev") ?_;have E:=iE (vs:=xs) (a:=z) p (by omega);have B:=iE (vs:=ns) (a:=2+(i:Int)) (by omega) (by omega);have q:=N4 (vs:=xs) (a:=z) p (by omega);have e:=N4 (vs:=ns) (a:=2+(i:Int)) (by omega) (by omega);obtain⟨m,I,m1,y⟩:=O3 (C:=C) (c:=nth ns (2+(i:Int))) (k:=2+(i:Int)) (QaC (l _ e) (by decide)) (by omega) (by omega);have A:IntMulOk (nth xs z) 31:=pN (by decide) (by decide);refine sV (d:=.int (nth xs z*31+m)) (by simp only[LI];clear hR hall h t u v l q e;walk_at "ev") ?_;have F:(0:Int)<2147483629:=by decide
  refine ZaA (d:=.int ((nth xs z*31+m)%2147483629)) (j:=z) (ds:=xs.map D.int) (by clear hR hall h t u v l q e y E B;walk_at "ev") rfl rfl p (by rw[Qaa];omega) (dP _) rfl ?_;refine hR _ ⟨xs.set z.toNat ((nth xs z*31+m)%2147483629),_,_,_,by simpa using f,Z8e _ hall ?_,by simp only[LI,List.map_set];rfl⟩;have J:=QaB (nth xs z*31+m) (show(2147483629:Int)≠0 by decide);have H:=Qas (nth xs z*31+m) F;omega
 .rintro env ⟨xs,a,b,c,f,hall,rfl⟩;exact Z4K rfl ⟨_,rfl,xs,f,hall,rfl⟩
def Zb4(x:Int):∃k:Kd,atI [D.str "and",.str "or",.str "xor",.str "and"] (x%4)=some (.str k.s):=by
 have a:=QaB x (show(4:Int)≠0 by decide);have h1:=Qas x (show(0:Int)<4 by decide);generalize x%4=y at *
 have:y=0\/y=1\/y=2\/y=3:=by omega
 rcases this with rfl|rfl|rfl|rfl
 .exact⟨.and,rfl⟩
 .exact⟨.or,rfl⟩
 .exact⟨.xor,rfl⟩
 .exact⟨.and,rfl⟩
def RowsOk.snoc(h:RowsOk ins rows)(a:RowOk ((ins+rows.length:Nat):Int) r):RowsOk ins (rows++[r]):=by
 intro k f e;by_cases b:k<rows.length
 .rw[QaH b]at e;exact h k f e
 .rw[QaW (by omega)]at e;have:k-rows.length=0:=by
   by_cases z:k-rows.length=0
   .exact z
   .rw[Qay (by simp;omega)]at e;cases e
  rw[this]at e;simp at e;subst e;have:k=rows.length:=by omega
  rw[this];exact a
def Zaa{C:Af}{ins:Nat}{xs:Ab Int}(Q:xs.length<=100):∃d,yM C [.int ins,LI xs]=some d/\∃rows:Ab Row,RowsOk ins rows/\rows.length=xs.length/\d=.lst (rows.map Row.d):=by
 refine Z7E ?_;unfold Z03;refine sV (d:=.lst []) rfl ?_;refine Z4L (ds:=xs.map D.int) rfl (λi env=>∃rows a b c e,RowsOk ins rows/\rows.length=i/\env=[oF (.int ins),oF (LI xs),oT (.lst (rows.map Row.d)),a,b,c,e])
  ⟨[],none,none,none,none,λk r h=>(by simp at h),rfl,rfl⟩ ?_ ?_
 .rintro i d env R hd ⟨rows,a,b,c,e,hr,rfl,rfl⟩ hR;obtain⟨n,E,rfl⟩:=dW hd;have L:=(Qae.mp E).1;refine⟨_,rfl,?_⟩;have t:bV [.lst (rows.map Row.d)]=some (.int (rows.length:Int)):=by simp only[bV,Qaa]
  generalize hA:(ins:Int)+(rows.length:Int)=A;have K:0<=A:=by omega
  refine sV (d:=.int A) (by clear hR;walk_at "ev") ?_;have H:fS n 16:=⟨by decide,by decide⟩;have J:fS n 80:=⟨by decide,by decide⟩;have G:(0:Int)<16:=by decide
  have T:(0:Int)<4:=by decide
  have y:(0:Int)<2:=by decide
  have f1:Z8M [.int A,.int 5]=some (.int (if 5<A then 5 else A)):=rfl;generalize hM:(if 5<A then 5 else A)=M at f1;have p:M<=A/\0<=M/\(0<A->0<M):=by rw[<- hM];split<;>omega
  have w:Z4D [.int 1,.int M]=some (.int (if M > 1 then M else 1)):=rfl;generalize hM2:(if M > 1 then M else 1)=M2 at w;have l:0<M2/\(0<A->M2<=A):=by rw[<- hM2];split<;>omega
  have B:Z4D [.int 1,.int A]=some (.int (if A > 1 then A else 1)):=rfl;generalize hM4:(if A > 1 then A else 1)=M4 at B;have o:0<M4/\(0<A->M4<=A):=by rw[<- hM4];split<;>omega
  have p2:=l.1;have x:=o.1;have W:=QaB (n/16) (show M2≠0 by omega);have O:=Qas (n/16) p2;have S:=QaB (n/80) (show M4≠0 by omega);have U:=Qas (n/80) x;refine sV (d:=.int (A-1-n/16%M2)) (by clear hR hM hM2 hM4 p l o hA t;walk_at "ev") ?_;refine sV (d:=.int (A-1-n/80%M4)) (by clear hR hM hM2 hM4 p l o hA t f1 w;walk_at "ev") ?_;have j:(rows.map Row.d).length<=1000:=by rw[Qaa];omega
  have f:∀r:Row,RowOk A r->R (.next [oF (.int ins),oF (LI xs),oT (.lst (rows.map Row.d++[r.d])),oF (.int n),oT (.int A),oT (.int (A-1-n/16%M2)),oT (.int (A-1-n/80%M4))]):=by
   intro r u;refine hR _ ⟨rows++[r],oF (.int n),oT (.int A),oT (.int (A-1-n/16%M2)),oT (.int (A-1-n/80%M4)),hr.snoc (by rw[show((ins+rows.length:Nat):Int)=A by omega];exact u),by simp,?_⟩;simp only[Qaw,Qak,QaT]
  have P:=QaB (n/16) (show(2:Int)≠0 by decide);have w1:=Qas (n/16) y;obtain⟨v,F⟩:=Zb4 n;generalize hone:A-1-n/16%M2=one at *
  generalize htwo:A-1-n/80%M4=two at *
  by_cases hc:A=0\/n%16=0
  .refine T8 (by
    clear f hR;rcases hc with z|z
    .subst z;walk_at "ev"
    .by_cases q:A=0
     .subst q;walk_at "ev"
     .walk_at "ev") ?_
   refine Z1S (d:=(Row.fix (n/16%2)).d) (by clear f hR;walk_at "ev";rfl) rfl j ?_;exact f (.fix (n/16%2)) (by show _\/_;omega)
  .have q:¬A=0:=λz=>hc (.inl z);have I:¬n%16=0:=λz=>hc (.inr z);refine T9 (by clear f hR;walk_at "ev") ?_;by_cases N:n%16<4
   .refine T8 (by clear f hR;walk_at "ev") ?_;refine Z1S (d:=(Row.not one).d) (by clear f hR;walk_at "ev";rfl) rfl j ?_;exact f (.not one) (by show _/\_;omega)
   .refine T9 (by clear f hR;walk_at "ev") ?_;refine Z1S (d:=(Row.bin v one two).d) (by clear f hR;walk_at "ev";rfl) rfl j ?_;exact f (.bin v one two) (by show(_/\_)/\_;omega)
 .rintro env ⟨rows,a,b,c,e,hr,hl',rfl⟩;exact Z4K rfl ⟨_,rfl,rows,hr,by simpa using hl',rfl⟩
def Zab(p:0<W):∃d,yN C [.int W,.int n]=some d/\∃outs:Ab Int,0<outs.length/\outs.length<=16/\(∀a∈outs,0<=a/\a<W)/\d=LI outs:=by
 refine Z7E ?_;unfold Z04;refine sV (d:=LI [W-1]) (by simp only[LI,Qak,QaT];walk_at "ev") ?_;have t:(0:Int)<4:=by decide
 have L:=QaB n (show(4:Int)≠0 by decide);have K:=Qas n t;obtain⟨k4,j⟩:∃k:Nat,n%4=(k:Int):=⟨(n%4).toNat,by omega⟩;have f:∀{l:Ab Int}{v:Int},(∀a∈l,0<=a/\a<W)->0<=v->v<W->∀a∈l++[v],0<=a/\a<W:=by
  intro l v h1 w x a o;rcases Qai.mp o with z|z
  .exact h1 a z
  .have:a=v:=by simpa using z
   subst this;exact⟨w,x⟩
 refine Z4L (ds:=(List.range k4).map λ(k:Nat)=>.int (k:Int)) (eY (xs:=[.int (n%4)]) (by clear f j;walk_at "ev") (Z3y j (by omega)))
  (λi env=>∃outs a,outs.length=i+1/\(∀a∈outs,0<=a/\a<W)/\env=[oF (.int W),oF (.int n),oT (LI outs),a]) ⟨[W-1],none,rfl,λa o=>(by have h1:a=W-1:=(by simpa using o);omega),rfl⟩ ?_ ?_
 .rintro i d env R hd ⟨outs,a,ho,hall,rfl⟩ hR;obtain⟨hi,rfl⟩:=fJ hd;have dk:fS n ((i:Int)+4):=Z1D (by omega) (by omega);have y:=QaB (n/((i:Int)+4)) (show W≠0 by omega);have u:=Qas (n/((i:Int)+4)) p;refine⟨_,rfl,?_⟩;refine Z1S (d:=.int (n/((i:Int)+4)%W)) (ds:=outs.map D.int) (by clear hR hall f j;walk_at "ev") rfl (by rw[Qaa];omega) ?_;refine hR _ ⟨outs++[n/((i:Int)+4)%W],oF (.int (i:Int)),by simp[ho],f hall y u,?_⟩;simp only[LI,Qaw,Qak,QaT];rfl
 rintro env ⟨outs,a,ho,hall,rfl⟩;rw[Qaa,QaU]at ho;have B:fS n 64:=⟨by decide,by decide⟩;have r:fS n 1024:=⟨by decide,by decide⟩;have E:(0:Int)<16:=by decide
 have J:(0:Int)<3:=by decide
 have F:outs.length<=4:=by omega
 refine Z7b (λe=>∃outs a,0<outs.length/\outs.length<=16/\(∀a∈outs,0<=a/\a<W)/\e=[oF (.int W),oF (.int n),oT (LI outs),a]) ?_ ?_
 .by_cases h:n/64%16=0
  .refine T8 (by clear f hall;walk_at "ev") ?_;have I:bV [.lst (outs.map D.int)]=some (.int (outs.length:Int)):=by simp only[bV,Qaa]
   have A:bL [0,1] (sB1 fR (aC (fSu (kI 16) (fB1 bV (aC (aD 2) aH))) aH)) fTT (fMo (fMu (aD 0) (aD 2)) (aD 1)) [oF (.int W),oF (.int n),oT (LI outs),a]=some (LI ((List.range (16-outs.length)).map λ(k:Nat)=>(k:Int)*n%W)):=by
    rw[bI (λ(k:Nat)=>.int (k:Int)) (λ(k:Nat)=>.int ((k:Int)*n%W)) (xs:=List.range (16-outs.length)) (eY (xs:=[.int (16-(outs.length:Int))]) (by simp only[LI];clear f hall;walk_at "ev") (Z3y (by omega) (by omega))) (by rw[QaU];omega) (λk q=>?_)]
    .simp[LI,Function.comp_def]
    .have q:=Qbn.mp q;have H:IntMulOk (k:Int) n:=pO (by omega) (by omega);show fI2 _ _ _ (aD 1) [oF (.int (k:Int)),oF (.int W),oF (.int n)]=_;clear f hall;walk_at "ev"
   refine Z4J (xs:=outs.map D.int) rfl A (dP _) (by simp;omega) ?_;refine⟨_,rfl,outs++(List.range (16-outs.length)).map (λ(k:Nat)=>(k:Int)*n%W),a,by simp;omega,by simp;omega,λb hb=>?_,?_⟩
   .rcases Qai.mp hb with z|z
    .exact hall b z
    .obtain⟨k,_,rfl⟩:=QaG.mp z;exact⟨QaB _ (by omega),Qas _ p⟩
   .simp only[LI,Qaw];rfl
  .refine T9 (by clear f hall;walk_at "ev") ?_;exact⟨_,rfl,outs,a,by omega,by omega,hall,rfl⟩
 rintro _ ⟨outs,a,o1,o2,hall,rfl⟩;refine Z7b (λe=>∃outs a,0<outs.length/\outs.length<=16/\(∀a∈outs,0<=a/\a<W)/\e=[oF (.int W),oF (.int n),oT (LI outs),a]) ?_ ?_
 .by_cases h:n/1024%3=0
  .refine T8 (by clear f hall;walk_at "ev") ?_;have G:=dP outs;refine Z1R (d:=LI outs.reverse) (by simp only[LI,List.map_reverse];clear f hall;walk_at "ev") ?_;exact⟨_,rfl,outs.reverse,a,by simpa using o1,by simpa using o2,λb hb=>hall b (List.mem_reverse.mp hb),rfl⟩
  .refine T9 (by clear f hall;walk_at "ev") ?_;exact⟨_,rfl,outs,a,o1,o2,hall,rfl⟩
 rintro _ ⟨outs,a,o1,o2,hall,rfl⟩;exact Z4K rfl ⟨_,rfl,outs,o1,o2,hall,rfl⟩
def Z8n{C:Af}{ins i:Nat}(hi:ins<=8)(h:i<ins):mE C [.int ins,.int i]=some (.int (tab (2^ins) λg=>decide (g/2^i%2=1))):=by
 obtain⟨f,b⟩:=wL hi;have e:2^ins<=256:=Int.ofNat_le.mp b;have o:lQ 1 (ins:Int):=nM (by omega) (by omega);have r:lQ 1 (i:Int):=nM (by omega) (by omega);refine aZ ?_;unfold F4;refine gO (d:=.int 0) rfl ?_;refine iG (ds:=(List.range (2^ins)).map λ(k:Nat)=>.int (k:Int)) (eY (xs:=[.int ((1:Int)*2^(ins:Int).toNat)]) (by clear f b e hi h r;walk_at "ev") (Z3y (lX ins) (by omega)))
  (λj env=>∃a,env=[oF (.int ins),oF (.int i),oT (.int (tab j λg=>decide (g/2^i%2=1))),a]) ⟨none,rfl⟩ ?_ ?_
 .rintro g d env hd ⟨a,rfl⟩;obtain⟨v,rfl⟩:=fJ hd;have w:fS (g:Int) ((1:Int)*2^(i:Int).toNat):=zI (by omega);have u:(0:Int)<2:=by decide
  have q:((g:Int)/((1:Int)*2^(i:Int).toNat)%2=1)=(g/2^i%2=1):=by
   rw[lX];apply propext;constructor
   .intro z;exact Int.ofNat.inj (by simpa using z)
   .intro z;have:=congrArg (λ(n:Nat)=>(n:Int)) z;simpa using this
  have t:lQ 1 (g:Int):=nM (by omega) (by omega);by_cases p:g/2^i%2=1
  .have l:tab (g+1) (λg=>decide (g/2^i%2=1))=tab g (λg=>decide (g/2^i%2=1))+(1:Int)*2^(g:Int).toNat:=by
    unfold tab;simp only[tabN];simp[p]
   refine⟨_,_,rfl,Z3B (by clear f b e hi h o hd;walk_at "ev") (Z25 (d:=.int (tab g (λg=>decide (g/2^i%2=1))+(1:Int)*2^(g:Int).toNat)) (by clear f b e hi h o hd q;walk_at "ev")),oF (.int g),by rw[l];rfl⟩
  .have l:tab (g+1) (λg=>decide (g/2^i%2=1))=tab g (λg=>decide (g/2^i%2=1)):=by
    unfold tab;simp only[tabN];simp[p]
   refine⟨_,_,rfl,Z0Z (by clear f b e hi h o hd;walk_at "ev") rfl,oF (.int g),by rw[l];rfl⟩
 .rintro env ⟨a,rfl⟩;rw[Qaa,QaU];rfl
def Z2x(y:ns.length<=63)(p:∀c∈ns,Builtin.Int.intBits c<=1048576):∃d,pS C [LI ns]=some d/\∃(ins:Nat) (rows:Ab Row) (outs:Ab Int),ins<=5/\RowsOk ins rows/\rows.length<=10/\0<outs.length/\outs.length<=16/\(Ho ins rows outs)/\0<ins+rows.length/\d=aX ins rows outs:=by
 refine Z7E ?_;unfold F6;have l:=Z6b (C:=C) (ns:=ns) (k:=0) (by decide);have q:=Z6b (C:=C) (ns:=ns) (k:=1) (by decide);generalize nth ns 0=fst at l;generalize nth ns 1=snd at q;refine sV (d:=.int fst) (aJ (xs:=[LI ns,.int 0]) rfl l) ?_;have O:(0:Int)<4:=by decide
 have P:(0:Int)<6:=by decide
 have E:(0:Int)<11:=by decide
 have Q:(0:Int)<2:=by decide
 have Z:fS fst 4:=⟨by decide,by decide⟩;have U:fS fst 36:=⟨by decide,by decide⟩;have K:fS fst 216:=⟨by decide,by decide⟩;have S:=QaB fst (show(4:Int)≠0 by decide);have Y:=Qas fst O;have M:=QaB (fst/4) (show(6:Int)≠0 by decide);have v1:=Qas (fst/4) P;have w0:=QaB (fst/216) (show(2:Int)≠0 by decide);have w1:=Qas (fst/216) Q;refine Z7b (λe=>∃ins:Nat,ins<=5/\e=[oF (LI ns),oT (.int fst),oT (.int ins),none,none,none]) ?_ ?_
 .by_cases h:fst/36%6=5
  .refine Z1R (d:=.int (fst/4%6)) (by clear p l q;walk_at "ev";simp only[Z0C,Rm];walk_at "ev") ?_;refine⟨_,rfl,(fst/4%6).toNat,by omega,?_⟩;rw[Qbj M];rfl
  .refine Z1R (d:=.int (fst%4)) (by clear p l q;walk_at "ev";simp only[Z0C];walk_at "ev") ?_;refine⟨_,rfl,(fst%4).toNat,by omega,?_⟩;rw[Qbj S];rfl
 rintro _ ⟨ins,hi5,rfl⟩;obtain⟨_,t,xs,X,o,rfl⟩:=Z8o (C:=C) y p;refine sV (d:=LI xs) (aJ (xs:=[LI ns,.int 11]) rfl t) ?_;have s0:=QaB snd (show(11:Int)≠0 by decide);have s1:=Qas snd E;obtain⟨k,hk⟩:∃k:Nat,snd%11=(k:Int):=⟨(snd%11).toNat,by omega⟩;have r:=dP xs;have v:cutD (xs.map D.int) none (some (k:Int))=(xs.take k).map D.int:=by rw[List.map_take];exact jD (xs.map D.int) k
 obtain⟨_,u,rows,f,b,rfl⟩:=Zaa (C:=C) (ins:=ins) (xs:=xs.take k) (by rw[Qat];omega);have w:rows.length<=10:=by rw[b,Qat];omega
 have ep:fSl (aD 3) gG (fP (fMo (aL (jH C) [] (aC (aD 0) (aC (kI 1) aH))) (kI 11))) [oF (LI ns),oT (.int fst),oT (.int ins),oT (LI xs),none,none]=some (LI (xs.take k)):=by
  have:fP (fMo (aL (jH C) [] (aC (aD 0) (aC (kI 1) aH))) (kI 11)) [oF (LI ns),oT (.int fst),oT (.int ins),oT (LI xs),none,none]=some (some (k:Int)):=by
   clear p l t u r v o f;walk_at "ev"
  rw[ev_Sl,this];simp only[LI,ev_var,ev_NoP,Qaz,QaY,QaN,Qav,r,Rm,v]
 refine sV (d:=.lst (rows.map Row.d)) (aJ (xs:=[.int ins,LI (xs.take k)]) (aI rfl (aI ep rfl)) u) ?_;refine Z7b (λe=>∃rows:Ab Row,RowsOk ins rows/\rows.length<=10/\0<ins+rows.length/\e=[oF (LI ns),oT (.int fst),oT (.int ins),oT (LI xs),oT (.lst (rows.map Row.d)),none]) ?_ ?_
 .have J:bV [.lst (rows.map Row.d)]=some (.int (rows.length:Int)):=by simp only[bV,Qaa]
  by_cases h:(ins:Int)+(rows.length:Int)=0
  .refine T8 (by clear p l q t u r v ep o f b;walk_at "ev") ?_;refine Z1R (d:=.lst [(Row.fix (fst/216%2)).d]) (by clear p l q t u r v ep o f b;walk_at "ev";rfl) ?_;refine⟨_,rfl,[.fix (fst/216%2)],?_,by simp,by simp,rfl⟩;intro F r' x
   match F,x with
   |0,x=>cases x;show _\/_;omega
   |F+1,x=>simp at x
  .refine T9 (by clear p l q t u r v ep o f b;walk_at "ev") ?_;exact⟨_,rfl,rows,f,w,by omega,rfl⟩
 clear u f b w;rintro _ ⟨rows,f,b,hpos,rfl⟩;have J:bV [.lst (rows.map Row.d)]=some (.int (rows.length:Int)):=by simp only[bV,Qaa]
 have T:=iE (vs:=xs) (a:=10) (by decide) (by omega);obtain⟨_,B,outs,R,L,G,rfl⟩:=Zab (C:=C) (W:=(ins:Int)+(rows.length:Int)) (n:=nth xs 10) (by omega);refine sV (d:=LI outs) (aJ (xs:=[.int ((ins:Int)+(rows.length:Int)),.int (nth xs 10)]) (by simp only[LI]at *;clear p l q t r v ep o f B G;walk_at "ev") B) ?_;have H:bL [2] (sB1 fR (aC (aD 2) aH)) fTT (aL (mE C) [] (aC (aD 1) (aC (aD 0) aH))) [oF (LI ns),oT (.int fst),oT (.int ins),oT (LI xs),oT (.lst (rows.map Row.d)),oT (LI outs)]=some (LI (inT ins)):=by
  have N:((List.range ins).map λ(i:Nat)=>D.int (tab (2^ins) λg=>decide (g/2^i%2=1)))=(inT ins).map D.int:=by
   apply List.ext_getElem?;intro j;by_cases A:j<ins
   .rw[QaA,QaA,pU ins j A,List.getElem?_range A];simp only[Qav]
   .rw[Qay (by simp;omega),Qay (by rw[Qaa,gC];omega)]
  have I:=bI (fr:=[2]) (src:=sB1 fR (aC (aD 2) aH)) (fe:=aL (mE C) [] (aC (aD 1) (aC (aD 0) aH))) (env:=[oF (LI ns),oT (.int fst),oT (.int ins),oT (LI xs),oT (.lst (rows.map Row.d)),oT (LI outs)])
   (λ(k:Nat)=>.int (k:Int)) (λ(i:Nat)=>.int (tab (2^ins) λg=>decide (g/2^i%2=1))) (xs:=List.range ins) (eY (xs:=[.int (ins:Int)]) rfl (xO (by omega))) (by rw[QaU];omega) (λi hi=>aJ (xs:=[.int ins,.int i]) rfl (Z8n (by omega) (Qbn.mp hi)))
  rw[I,N];simp only[LI]
 refine⟨aX ins rows outs,?_,ins,rows,outs,hi5,f,b,R,L,λa ha=>by have:=G a ha;omega,hpos,rfl⟩;exact W6 (nD rfl (nD rfl (nD rfl (qX H rfl)))) (by simp)
def Z69(j:l=0/\0<r.ws.length\/l=1/\1<r.ws.length)(hw:∀a∈r.ws,0<=a/\a<vs.length)(p:∀w l b,f=.leg w l b->b=0\/b=1) :
  wN C [LI vs,r.d,.int l,f.d,.int w,.int (bE n)]=some (.int (tV r w l vs (bE n) f)):=by
 have e:bC (fIx (aD 0) (fIx (aD 1) (fAd (aD 2) (kI 1)))) [oF (LI vs),oF r.d,oF (.int l),oF f.d,oF (.int w),oF (.int (bE n))]=some (.int (nth vs (nth r.ws l))):=by
  cases r with
  |fix b=>simp[Row.ws]at j
  |not a =>
   rcases j with⟨rfl,_⟩|⟨_,h⟩
   .have i:=hw a (by simp[Row.ws]);have q:=iE i.1 i.2;have u:nth (Row.not a).ws 0=a:=rfl;simp only[LI,Row.d];walk_at "ev"
   .simp[Row.ws]at h
  |bin k a b =>
   rcases j with⟨rfl,_⟩|⟨rfl,_⟩
   .have i:=hw a (by simp[Row.ws]);have q:=iE i.1 i.2;have u:nth (Row.bin k a b).ws 0=a:=rfl;simp only[LI,Row.d];walk_at "ev"
   .have i:=hw b (by simp[Row.ws]);have q:=iE i.1 i.2;have u:nth (Row.bin k a b).ws 1=b:=rfl;simp only[LI,Row.d];walk_at "ev"
 refine aZ ?_;unfold Z2E;cases f with
 |none =>
  refine sNo ?_ (bW e);simp only[Flt.d];rfl
 |wire w' b =>
  have t:=ZaK;have x:flats [.str "wire",.int w',.int b]=true:=rfl;have y:cutD [.str "wire",.int w',.int b] none (some 3)=[.str "wire",.int w',.int b]:=jD _ 3;refine sNo ?_ (bW e);simp only[Flt.d];clear e j hw p;walk_at "ev"
  try simp
 |leg w' l' b =>
  have t:=ZbX;have x:flats [.str "leg",.int w',.int l',.int b]=true:=rfl;have y:cutD [.str "leg",.int w',.int l',.int b] none (some 3)=[.str "leg",.int w',.int l']:=jD _ 3;have o:nE (lO true (aD 3)) (fEq (Z1y (aD 3) gG (fP (kI 3))) (gU (aC (kS "leg") (aC (aD 4) (aC (aD 2) aH))))) [oF (LI vs),oF r.d,oF (.int l),oF ((Flt.leg w' l' b).d),oF (.int w),oF (.int (bE n))]=some (decide (w'=w/\l'=l)):=by
   simp only[Flt.d];clear e j hw p;by_cases h1:w'=w
   .by_cases v:l'=l
    .subst h1;subst v;walk_at "ev";try simp
    .subst h1;walk_at "ev";try simp[v]
   .walk_at "ev";try simp[h1]
  by_cases h:w'=w/\l'=l
  .rw[Rk h]at o;have A:IntMulOk (bE n) b:=sS (p _ _ _ rfl);refine tE o (lY ?_);simp only[tV,if_pos h,Flt.d];clear t o e;walk_at "ev"
  .rw[Rj h]at o;refine sNo o ?_;simp only[tV,if_neg h];exact bW e
def Z0{C:Af}{n:Nat}{r:Row}{w k:Int}{vs:Ab Int}{f:Flt}(j:RowOk k r)(E:k<=vs.length)(p:∀a,IsT n (nth vs a))(e:∀w l b,f=.leg w l b->b=0\/b=1)(h:∀w' l' b,f=.leg w' l' b->w'=w->0<=l'/\l'<r.ws.length) :
  fK C [LI vs,r.d,f.d,.int w,.int (bE n)]=some (.int (iR r (legs r w vs (bE n) f) (bE n))):=by
 have hw:∀a∈r.ws,0<=a/\a<vs.length:=λa ha=>by have:=j.ws a ha;omega
 cases r with
 |fix b =>
  have v:=Z7z;have B:IntMulOk (bE n) b:=sS j;unfold fK iX;simp only[Row.d,iR];clear p e h hw j;walk_at "ev"
 |not a =>
  have q:=Z69 (C:=C) (n:=n) (w:=w) (l:=0) (f:=f) (.inl ⟨rfl,by simp[Row.ws]⟩) hw e;have i:=tU (w:=w) (l:=0) (o:=bE n) (vs:=vs) (.inl ⟨rfl,by simp[Row.ws]⟩) h;have v:=Z3j;have A:=ZbW;have t:=Z8q (Z66 (r:=.not a) (w:=w) (l:=0) p e);have u:iR (.not a) (legs (.not a) w vs (bE n) f) (bE n)=bE n-tV (.not a) w 0 vs (bE n) f:=by rw[<- t,<- i];rfl
  rw[u];generalize tV (Row.not a) w 0 vs (bE n) f=x at *
  unfold fK iX;simp only[Row.d]at q ⊢;clear t u i h e p j hw;walk_at "ev"
 |bin kd a b =>
  have q:=Z69 (C:=C) (n:=n) (w:=w) (l:=0) (f:=f) (.inl ⟨rfl,by simp[Row.ws]⟩) hw e;have i:=tU (w:=w) (l:=0) (o:=bE n) (vs:=vs) (.inl ⟨rfl,by simp[Row.ws]⟩) h;have h1:=Z69 (C:=C) (n:=n) (w:=w) (l:=1) (f:=f) (.inr ⟨rfl,by simp[Row.ws]⟩) hw e;have k1:=tU (w:=w) (l:=1) (o:=bE n) (vs:=vs) (.inr ⟨rfl,by simp[Row.ws]⟩) h;have v:=Z3s kd;have A:=ZaO kd;have G:=ZaP kd;have F:=ZaN kd;have g:iR (.bin kd a b) (legs (.bin kd a b) w vs (bE n) f) (bE n)=kdT kd (tV (.bin kd a b) w 0 vs (bE n) f) (tV (.bin kd a b) w 1 vs (bE n) f):=by
   rw[<- i,<- k1];cases kd<;>rfl
  rw[g];clear g i k1 h e p j hw;generalize tV (Row.bin kd a b) w 0 vs (bE n) f=x at *
  generalize tV (Row.bin kd a b) w 1 vs (bE n) f=y at *
  unfold fK iX;simp only[Row.d]at q h1 ⊢;cases kd with
  |and=>walk_at "ev";rfl
  |or=>walk_at "ev";rfl
  |xor=>walk_at "ev";rfl
def Z8l{C:Af}{ins:Nat}{rows:Ab Row}{outs:Ab Int}{f:Flt}(hi:ins<=8)(hs:ins+rows.length<=1000)(E:RowsOk ins rows)(y:FltOk ins rows f) :
  tN C [aX ins rows outs,f.d]=some (LI (aS ins rows f)):=by
 have H:=kT ins rows f;have t:=nR E y;obtain⟨p,q⟩:=wL hi;have J:lQ 1 (ins:Int):=nM (by omega) (by omega);have p2:lQ 1 ((1:Int)*2^(ins:Int).toNat):=by rw[lX];exact nM p (Int.le_trans q (by decide))
 have ep:(1:Int)*2^((1:Int)*2^(ins:Int).toNat).toNat-1=bE (2^ins):=by rw[lX];exact Z2H ins
 refine aZ ?_;unfold F3;have U:bV [.lst (rows.map Row.d)]=some (.int (rows.length:Int)):=by simp only[bV,Qaa]
 have G:Z5e [0] (gtT [2,3,4,5]) (aD 0) (enStart 9 [aX ins rows outs,f.d])=.next [oF (aX ins rows outs),oF f.d,oF (.int ins),oF (.lst (rows.map Row.d)),oF (LI outs),oF (LI (inT ins)),none,none,none]:=rfl;refine Z7t G ?_;refine gO (d:=.int (bE (2^ins))) (by clear t p q H hi hs E y G;walk_at "ev") ?_;refine gO (d:=.lst []) rfl ?_;refine iG (ds:=(List.range (ins+rows.length)).map λ(k:Nat)=>.int (k:Int)) (eY (xs:=[.int ((ins:Int)+(rows.length:Int))]) (by clear t p q H hi hs E y J p2 ep G;walk_at "ev") (Z3y (by omega) hs))
  (λi env=>∃s,env=[oF (aX ins rows outs),oF f.d,oF (.int ins),oF (.lst (rows.map Row.d)),oF (LI outs),oF (LI (inT ins)),oT (.int (bE (2^ins))),oT (LI ((aS ins rows f).take i)),s]) ⟨none,rfl⟩ ?_ ?_
 .rintro i d env hd ⟨s,rfl⟩;obtain⟨T,rfl⟩:=fJ hd;have B:((aS ins rows f).take i).length=i:=by rw[Qat];omega
  have u:(((aS ins rows f).take i).map D.int).length<=1000:=by rw[Qaa];omega
  have o:∀v,(aS ins rows f)[i]?=some v->Res.next [oF (aX ins rows outs),oF f.d,oF (.int ins),oF (.lst (rows.map Row.d)),oF (LI outs),oF (LI (inT ins)),oT (.int (bE (2^ins))),oT (.lst (((aS ins rows f).take i).map D.int++[.int v])),oF (.int i)] =
    .next [oF (aX ins rows outs),oF f.d,oF (.int ins),oF (.lst (rows.map Row.d)),oF (LI outs),oF (LI (inT ins)),oT (.int (bE (2^ins))),oT (LI ((aS ins rows f).take (i+1))),oF (.int i)]:=by
   intro v j;rw[cY j];simp only[LI,Qaw,Qak,QaT]
  generalize htk:(aS ins rows f).take i=vs at *
  -- the wire's own fault
  have I:∀z,nE (lO true (aD 1)) (fEq (Z1y (aD 1) gG (fP (kI 2))) (gU (aC (kS "wire") (aC (aD 8) aH)))) [oF (aX ins rows outs),oF f.d,oF (.int ins),oF (.lst (rows.map Row.d)),oF (LI outs),oF (LI (inT ins)),oT (.int (bE (2^ins))),z,oF (.int i)]=some (qF f (i:Int)):=by
   intro z;clear t p q H hi hs E y J p2 ep G o u hd B htk;cases f with
   |none=>rfl
   |leg w l b =>
    have P:=ZaM;have N:flats [.str "leg",.int w,.int l,.int b]=true:=rfl;have O:cutD [.str "leg",.int w,.int l,.int b] none (some 2)=[.str "leg",.int w]:=jD _ 2;simp only[Flt.d];walk_at "ev"
    try simp[qF]
   |wire w b =>
    have P:=ZbV;simp only[Flt.d];by_cases hw:w=(i:Int)
    .subst hw;have N:flats [.str "wire",.int (i:Int),.int b]=true:=rfl;have O:cutD [.str "wire",.int (i:Int),.int b] none (some 2)=[.str "wire",.int (i:Int)]:=jD _ 2;walk_at "ev"
     try simp[qF]
    .have N:flats [.str "wire",.int w,.int b]=true:=rfl;have O:cutD [.str "wire",.int w,.int b] none (some 2)=[.str "wire",.int w]:=jD _ 2;walk_at "ev"
     try simp[qF,hw]
  by_cases A:∃b,f=.wire (i:Int) b
  .obtain⟨b,rfl⟩:=A;have j:(aS ins rows (.wire (i:Int) b))[i]?=some (bE (2^ins)*b):=by
    by_cases h1:i<ins
    .rw[wX h1];simp only[cC,Rm]
    .have M:i-ins<rows.length:=by omega
     have x:=Qaj M;generalize rows[i-ins]=r at x;have j:=uU (ins:=ins) (f:=.wire (i:Int) b) x;rw[show ins+(i-ins)=i by omega]at j;rw[j];simp only[cC,Rm]
   have W:IntMulOk (bE (2^ins)) b:=sS (y.w _ _ rfl);refine⟨_,_,rfl,(Z3B ((I _).trans (by simp[qF])) (hJ (d:=.int (bE (2^ins)*b)) ?_ rfl u)).trans (o _ j),oF (.int i),rfl⟩;simp only[Flt.d];clear t p q H hi hs E y J p2 ep G o u hd B htk I j;walk_at "ev"
  .have F:∀v,cC v (i:Int) (bE (2^ins)) f=v:=by
    intro v;cases f with
    |none=>rfl
    |leg _ _ _=>rfl
    |wire w b =>
     unfold cC;by_cases hw:w=(i:Int)
     .subst hw;exact absurd ⟨b,rfl⟩ A
     .simp only[hw,Rn]
   have h:qF f (i:Int)=false:=by
    cases f with
    |none=>rfl
    |leg _ _ _=>rfl
    |wire w b =>
     by_cases hw:w=(i:Int)
     .subst hw;exact absurd ⟨b,rfl⟩ A
     .simp[qF,hw]
   by_cases h1:i<ins
   .have R:(i:Int)<(ins:Int):=by omega
    have j:=wX (rows:=rows) (f:=f) h1;rw[F]at j;have L:atI ((inT ins).map D.int) (i:Int)=some (.int (tab (2^ins) λg=>decide (g/2^i%2=1))):=by
     rw[iE (by omega) (by rw[gC];omega)];exact congrArg (λz=>some (D.int z)) (iU (pU ins i h1) rfl)
    refine⟨_,_,rfl,(Z0Z ((I _).trans (by rw[h])) (Z3B ?_ (hJ (d:=.int (tab (2^ins) λg=>decide (g/2^i%2=1))) ?_ rfl u))).trans (o _ j),oF (.int i),rfl⟩
    .clear t p q H hi hs E y J p2 ep G o u hd B htk I j L F h A;walk_at "ev"
    .simp only[LI];clear t p q H hi hs E y J p2 ep G o u hd B htk I j F h A;walk_at "ev"
   .have R:¬(i:Int)<(ins:Int):=by omega
    have M:i-ins<rows.length:=by omega
    have x:=Qaj M;generalize rows[i-ins]=r at x;have j:=uU (ins:=ins) (f:=f) x;rw[show ins+(i-ins)=i by omega,F,htk]at j;have K:=E _ r x;rw[show ins+(i-ins)=i by omega]at K;have L:=oZ x (a:=(i:Int)-(ins:Int)) (by omega);have S:=Z0 (C:=C) (n:=2^ins) (w:=(i:Int)) (vs:=vs) (f:=f) K (by rw[B];omega) (λa=>?_) y.l (λw' l' b e hw=>y.leg w' l' b (i-ins) r e x (by rw[hw];omega))
    .refine⟨_,_,rfl,(Z0Z ((I _).trans (by rw[h])) (Z0Z ?_ (hJ (d:=.int (iR r (legs r i vs (bE (2^ins)) f) (bE (2^ins)))) ?_ rfl u))).trans (o _ j),oF (.int i),rfl⟩
     .clear t p q H hi hs E y J p2 ep G o u hd B htk I j L F h A S;walk_at "ev"
     .clear t p q H hi hs E y J p2 ep G o u hd B htk I j F h A;walk_at "ev"
    .rw[<- htk];by_cases Q:a.toNat<i
     .have:nth ((aS ins rows f).take i) a=nth (aS ins rows f) a:=by unfold nth;rw[List.getD,List.getD,List.getElem?_take_of_lt Q]
      rw[this];exact t a
     .have:nth ((aS ins rows f).take i) a=0:=by unfold nth;rw[List.getD,Qay (by rw[Qat];omega)];rfl
      rw[this];exact yR _
 .rintro env ⟨s,rfl⟩;rw[Qaa,QaU,<- H,QaD];rfl
def O2(hi:ins<=8)(hs:ins+rows.length<=1000)(j:RowsOk ins rows)(b:FltOk ins rows f)(e:outs.length<=1000)(l:Ho ins rows outs) :
  kK C [aX ins rows outs,f.d]=some (LI (outs.map (nth (aS ins rows f)))):=by
 have w:=Z8l (C:=C) (outs:=outs) hi hs j b;have i:=kT ins rows f;generalize aS ins rows f=T at *
 refine aZ ?_;unfold oQ;refine gO (aJ (xs:=[aX ins rows outs,f.d]) rfl w) ?_;refine bW ?_;rw[bI D.int (λa=>.int (nth T a)) (xs:=outs) (by rfl) e (λa ha=>?_)]
 .simp[LI,Function.comp_def]
 .have h:=l a ha;have n:=iE (vs:=T) (a:=a) h.1 (by rw[i];exact h.2);show bC (fIx (aD 1) (aD 0)) [oF (.int a),oT (LI T)]=_;simp only[LI];walk_at "ev"
def Zbd(h1:w<((ins+rows.length:Nat):Int)):pR C [aX ins rows outs,.int w]=some (LI (bH ins rows w)):=by
 refine aZ ?_;show P4 C [oF (aX ins rows outs),oF (.int w)]=_;unfold P4 aX;by_cases h:w<(ins:Int)
 .rw[mH h];refine tE (by walk_at "ev") (lY rfl)
 .have j:(w-(ins:Int)).toNat<rows.length:=by omega
  have f:=Qaj j;generalize rows[(w-(ins:Int)).toNat]=r at f;have e:=oZ f (a:=w-(ins:Int)) (by omega);rw[mZ (by omega) f];cases r with
  |fix b =>
   have i:=Z7z;simp only[Row.d]at e;exact tE (by walk_at "ev") (lY rfl)
  |not a =>
   have i:=Z3j;simp only[Row.d]at e;refine sNo (by walk_at "ev") (bW ?_);simp[e,fSl,flats,PD.flat,Z4c,Z0Y,jR,LI,Row.ws,atI_0,atI_1]
  |bin k a b =>
   have i:=Z3s k;simp only[Row.d]at e;refine sNo (by walk_at "ev") (bW ?_);simp[e,fSl,flats,PD.flat,Z4c,Z0Y,jR,LI,Row.ws,atI_0,atI_1]
def Z3W(h1:w<((ins+rows.length:Nat):Int)):eU C [aX ins rows outs,.int w]=some (LI (dC ins rows w)):=by
 refine aZ ?_;show oR C [oF (aX ins rows outs),oF (.int w)]=_;unfold oR dC aX;by_cases h:w<(ins:Int)
 .have h':¬(ins:Int)<=w:=by omega
  rw[if_pos h];exact sNo (by walk_at "ev") rfl
 .have h':(ins:Int)<=w:=by omega
  have j:(w-(ins:Int)).toNat<rows.length:=by omega
  have e:=Qaj j;generalize rows[(w-(ins:Int)).toNat]=r at e;have f:=oZ e (a:=w-(ins:Int)) (by omega);rw[if_neg h,e];cases r with
  |fix b =>
   have i:=Z7z;simp only[Row.d]at f;refine tE (by walk_at "ev") (lY ?_);simp only[LI,Qak,QaT];walk_at "ev"
  |not a =>
   have i:=Z3j;simp only[Row.d]at f;exact sNo (by walk_at "ev") rfl
  |bin k a b =>
   have i:=Z3s k;simp only[Row.d]at f;exact sNo (by walk_at "ev") rfl
def ZaS{n:Nat}(h:n<=1000):Z0B [.int (n:Int)]=some ((List.range n).map λ(k:Nat)=>.int ((n:Int)-1-(k:Int))):=by
 simp only[Z0B];rw[if_pos ⟨by omega,by omega⟩,QaO]
def Z6a{C:Af}{ins:Nat}{rows:Ab Row}{outs:Ab Int}(hs:ins+rows.length<64)(hl:outs.length<=100)(A:RowsOk ins rows)(U:Ho ins rows outs) :
  qS C [aX ins rows outs]=some (.lst ((bT ins rows outs).map Flt.d)):=by
 have el:bV [.lst (rows.map Row.d)]=some (.int (rows.length:Int)):=by simp only[bV,Qaa]
 have u:∀w:Int,w<((ins+rows.length:Nat):Int)->pR C [aX ins rows outs,.int w]=some (LI (bH ins rows w)):=λw h=>Zbd h;have r:∀w:Int,w<((ins+rows.length:Nat):Int)->eU C [aX ins rows outs,.int w]=some (LI (dC ins rows w)):=λw h=>Z3W h;refine aZ ?_;unfold yW;refine gO (d:=LI outs) (by simp only[aX,LI];have:=dP outs;simp[jR,this,atI_2,enStart]) ?_;have es:∀(a b c d e:Slot),fAd (fX 0 0) (fB1 bV (aC (fX 0 1) aH)) [oF (aX ins rows outs),a,b,c,d,e]=some (.int ((ins+rows.length:Nat):Int)):=by
  intro a b c d e;rw[show((ins+rows.length:Nat):Int)=(ins:Int)+(rows.length:Int) by omega];simp only[aX];clear u r;walk_at "ev"
 refine iG (ds:=(List.range (ins+rows.length)).map λ(k:Nat)=>.int (((ins+rows.length:Nat):Int)-1-(k:Int))) (eY (xs:=[.int ((ins+rows.length:Nat):Int)]) (aI (es _ _ _ _ _) rfl) (ZaS (by omega)))
  (λi env=>∃a,env=[oF (aX ins rows outs),oT (LI (fT ins rows outs i)),a,none,none,none]) ⟨none,rfl⟩ ?_ ?_
 .rintro i d env hd ⟨a,rfl⟩;obtain⟨hi,rfl⟩:=fJ hd;have E:=sU (ins:=ins) (rows:=rows) (outs:=outs) i;generalize hW:((ins+rows.length:Nat):Int)-1-(i:Int)=W;have f:fIn (aD 2) (aD 1) [oF (aX ins rows outs),oT (LI (fT ins rows outs i)),oF (.int W),none,none,none]=some (decide (W∈fT ins rows outs i)):=by
   show inF (.int W) (LI (fT ins rows outs i))=_;exact Z8
  by_cases hw:W∈fT ins rows outs i
  .have Q:=u W (by omega);have y:=gR (ins:=ins) (rows:=rows) (w:=W);refine⟨_,_,rfl,Z3B (f.trans (by simp[hw])) (mR (xs:=(fT ins rows outs i).map D.int) (ys:=(bH ins rows W).map D.int) rfl (aJ (xs:=[aX ins rows outs,.int W]) rfl Q) (dP _) (by simp;omega)),oF (.int W),?_⟩;simp only[fT];rw[hW,if_pos hw];simp only[LI,Qaw];rfl
  .refine⟨_,_,rfl,Z0Z (f.trans (by simp[hw])) rfl,oF (.int W),?_⟩;simp only[fT];rw[hW,if_neg hw];rfl
 rintro env ⟨a,rfl⟩;rw[Qaa,QaU];refine gO (d:=.lst []) rfl ?_;have E:=sU (ins:=ins) (rows:=rows) (outs:=outs) (ins+rows.length);have v:=Z1d A U;have l:∀i,(((gP (ins+rows.length)).take i).filter (λa=>decide (a∈fT ins rows outs (ins+rows.length)))).length<=ins+rows.length:=λi=>by
  refine QaC (Qbr _ _) ?_;rw[Qat];have:(gP (ins+rows.length)).length=ins+rows.length:=by simp[gP]
  omega
 generalize hWt:fT ins rows outs (ins+rows.length)=Wt at *
 refine iG (ds:=(gP (ins+rows.length)).map D.int) ((eY (xs:=[.int ((ins+rows.length:Nat):Int)]) (aI (es _ _ _ _ _) rfl) (xO (by omega))).trans (by
   simp only[gP,QaV];rfl))
  (λi env=>∃a b c,env=[oF (aX ins rows outs),oT (LI Wt),a,oT (.lst (((((gP (ins+rows.length)).take i).filter (λa=>decide (a∈Wt))).flatMap (cS ins rows)).map Flt.d)),b,c]) ⟨a,none,none,rfl⟩ ?_ ?_
 .rintro i d env hd ⟨a,b,c,rfl⟩;obtain⟨w,hw,rfl⟩:=dW hd;have p:=rangeI_mem.mp (QaK hw);have l:=l i;have fl:=sD (ins:=ins) (rows:=rows) (((gP (ins+rows.length)).take i).filter (λa=>decide (a∈Wt)));rw[cY hw,List.filter_append];generalize hB:(((gP (ins+rows.length)).take i).filter (λa=>decide (a∈Wt))).flatMap (cS ins rows)=B at *
  have I:(B.map Flt.d).length<=400:=by rw[Qaa];omega
  have f:fIn (aD 2) (aD 1) [oF (aX ins rows outs),oT (LI Wt),oF (.int w),oT (.lst (B.map Flt.d)),b,c]=some (decide (w∈Wt)):=by
   show inF (.int w) (LI Wt)=_;exact Z8
  by_cases n:w∈Wt
  .have Z:=gW (ins:=ins) (rows:=rows) (w:=w);have y:=gR (ins:=ins) (rows:=rows) (w:=w);have R:=r w p.2;have M:=u w p.2;have S:bL [2] (cR (aL (eU C) [] (aC (aD 0) (aC (aD 2) aH)))) fTT (gU (aC (kS "wire") (aC (bC (aD 1)) (aC (bC (aD 0)) aH)))) [oF (aX ins rows outs),oT (LI Wt),oF (.int w),oT (.lst (B.map Flt.d)),b,c]=some (.lst (((dC ins rows w).map λb=>Flt.wire w b).map Flt.d)):=by
    rw[bI D.int (λb=>(Flt.wire w b).d) (xs:=dC ins rows w) (dS (aJ (xs:=[aX ins rows outs,.int w]) rfl R)) (by omega) (λx _=>rfl),QaV];rfl
   have h1:=mR (i:=3) (j:=3) (env:=[oF (aX ins rows outs),oT (LI Wt),oF (.int w),oT (.lst (B.map Flt.d)),b,c]) rfl S (G0 B) (by simp only[Qaa]at *;omega);rw[<- Qaw]at h1;generalize hB2:B++(dC ins rows w).map (λb=>Flt.wire w b)=B2 at *
   have q:(B2.map Flt.d).length<=410:=by rw[<- hB2,Qaa,Qam,Qaa];rw[Qaa]at I;omega
   have X:bJ 4 (aL (pR C) [] (aC (aD 0) (aC (aD 2) aH))) [oF (aX ins rows outs),oT (LI Wt),oF (.int w),oT (.lst (B2.map Flt.d)),b,c]=.next [oF (aX ins rows outs),oT (LI Wt),oF (.int w),oT (.lst (B2.map Flt.d)),oT (LI (bH ins rows w)),c]:=Z25 (aJ (xs:=[aX ins rows outs,.int w]) rfl M);have F:bV [LI (bH ins rows w)]=some (.int ((bH ins rows w).length:Int)):=by simp only[bV,LI,Qaa]
   obtain⟨J,H,⟨x,rfl⟩⟩:=W8 (rs:=[]) (src:=sB1 fR (aC (fB1 bV (aC (aD 4) aH)) aH)) (t:=gtN 5) (g:=gJ 3 3 (bL [2,5] (cR (aL (eU C) [] (aC (aD 0) (aC (fIx (aD 4) (aD 5)) aH)))) fTT (gU (aC (kS "leg") (aC (bC (aD 1)) (aC (bC (aD 2)) (aC (bC (aD 0)) aH)))))))
    (env:=[oF (aX ins rows outs),oT (LI Wt),oF (.int w),oT (.lst (B2.map Flt.d)),oT (LI (bH ins rows w)),c]) (ds:=(List.range (bH ins rows w).length).map λ(k:Nat)=>.int (k:Int)) (eY (xs:=[.int ((bH ins rows w).length:Int)]) (aI (cM (xs:=[LI (bH ins rows w)]) rfl F) rfl) (xO (by omega)))
    (fun j env=>∃ x,env=[oF (aX ins rows outs),oT (LI Wt),oF (.int w),oT (.lst ((B2 ++ cJ ins rows w 0 ((bH ins rows w).take j)).map Flt.d)),oT (LI (bH ins rows w)),x]) ⟨c,by simp [PD.fz,cJ]⟩ (by
     rintro j d env hd ⟨x,rfl⟩;obtain⟨L,rfl⟩:=fJ hd;have o:=Qaj L;generalize (bH ins rows w)[j]=a' at o;have Y:=kC A (QaK o);have K:atI ((bH ins rows w).map D.int) (j:Int)=some (.int a'):=gM (by simp[o]);have P:=r a' (by omega);have O:=gW (ins:=ins) (rows:=rows) (w:=a');have l:=iW (ins:=ins) (rows:=rows) (w:=w) ((bH ins rows w).take j) 0;rw[Qat]at l;rw[oK o,<- Qa1];generalize hB3:B2++cJ ins rows w 0 ((bH ins rows w).take j)=B3 at *
     have N:(B3.map Flt.d).length<=450:=by rw[<- hB3,Qaa,Qam];rw[Qaa]at q;omega
     have T:bL [2,5] (cR (aL (eU C) [] (aC (aD 0) (aC (fIx (aD 4) (aD 5)) aH)))) fTT (gU (aC (kS "leg") (aC (bC (aD 1)) (aC (bC (aD 2)) (aC (bC (aD 0)) aH))))) [oF (aX ins rows outs),oT (LI Wt),oF (.int w),oT (.lst (B3.map Flt.d)),oT (LI (bH ins rows w)),oF (.int (j:Int))]=some (.lst (((dC ins rows a').map λb=>Flt.leg w (j:Int) b).map Flt.d)):=by
      rw[bI D.int (λb=>(Flt.leg w (j:Int) b).d) (xs:=dC ins rows a') (dS (aJ (xs:=[aX ins rows outs,.int a']) (aI rfl (aI K rfl)) P)) (by omega) (λx _=>rfl),QaV];rfl
     have G:=mR (i:=3) (j:=3) (env:=[oF (aX ins rows outs),oT (LI Wt),oF (.int w),oT (.lst (B3.map Flt.d)),oT (LI (bH ins rows w)),oF (.int (j:Int))]) rfl T (G0 B3) (by simp only[Qaa]at *;omega);rw[<- Qaw]at G;exact⟨_,_,rfl,G,oF (.int j),rfl⟩)
   rw[Qaa,QaU,QaD]at H;refine⟨_,_,rfl,Z3B (f.trans (by simp[n])) (Z7t h1 (Z7t X H)),oF (.int w),oT (LI (bH ins rows w)),x,?_⟩;simp only[List.filter_cons,n,decide_true,Rm,List.filter_nil,List.flatMap_append,List.flatMap_cons,List.flatMap_nil,QaP,hB];unfold cS;rw[<- hB2,Qa1]
  .refine⟨_,_,rfl,Z0Z (f.trans (by simp[n])) rfl,oF (.int w),b,c,?_⟩;simp only[List.filter_cons,n,decide_false,QaZ,Rn,List.filter_nil,QaP,hB];rfl
 .rintro env ⟨a,b,c,rfl⟩;rw[Qaa,QaD,v];rfl
def iJ(T outs:Ab Int)(g:Int):Ab Int:=outs.map λa=>nth T a/2^g.toNat%2
def LL(xss:Ab (Ab Int)):D:=.lst (xss.map LI)
def Z1M(b:outs.length<=1000)(e:0<=g):tQ C [LI (outs.map (nth T)),.int g]=some (LI (iJ T outs g)):=by
 refine aZ (bW ?_);rw[bI (λa=>.int (nth T a)) (λa=>.int (nth T a/2^g.toNat%2)) (xs:=outs) (by simp[LI,cR,aD,enStart,Function.comp_def]) b (λa ha=>by
  simp[kQ,enStart,PyProof.Rows.bitAnd_m1,e])]
 simp[LI,iJ,Function.comp_def]
def Z1N(hi:ins<=8)(hs:ins+rows.length<=1000)(i:RowsOk ins rows)(e:FltOk ins rows f)(a:outs.length<=1000)(j:Ho ins rows outs)(h:∀g∈tests,0<=g)(b:tests.length<=1000) :
  mG C [bD C ins rows outs,LI tests,f.d]=some (LL (tests.map (iJ (aS ins rows f) outs))):=by
 have l:=lB (C:=C) (outs:=outs) hi hs i e a j;refine aZ ?_;unfold F7;refine gO (aJ (xs:=[bD C ins rows outs,f.d]) rfl l) (bW ?_);rw[bI D.int (λg=>LI (iJ (aS ins rows f) outs g)) (xs:=tests) (by rfl) b (λg hg=>aJ (xs:=[LI (outs.map (nth (aS ins rows f))),.int g]) (by rfl) (Z1M a (h g hg)))];simp[LL,Function.comp_def]
def Z6c(e:outs.length<=1000)(l:0<=g)(i:g<=300):qT C [LI (outs.map (nth T)),.int g]=some (LI (iJ T outs g)):=by
 have f:lQ 1 g:=nM (by omega) (by omega);refine aZ (bW ?_);rw[bI (λa=>.int (nth T a)) (λa=>.int (nth T a/2^g.toNat%2)) (xs:=outs) (by simp[LI,cR,aD,enStart,Function.comp_def]) e (λa ha=>by
  have b:fS (nth T a) (1*2^g.toNat):=zI (by omega);have j:(0:Int)<2:=by decide
  have h:(1:Int)*2^g.toNat=2^g.toNat:=Qbt _;rw[h]at b;simp[kQ,enStart,f,b])]
 simp[LI,iJ,Function.comp_def]
def E9(e:outs.length<=1000)(a:∀g∈tests,0<=g/\g<=300)(b:tests.length<=1000):fV C [LI (outs.map (nth T)),LI tests]=some (LL (tests.map (iJ T outs))):=by
 refine aZ (bW ?_);rw[bI D.int (λg=>LI (iJ T outs g)) (xs:=tests) (by rfl) b (λg hg=>aJ (xs:=[LI (outs.map (nth T)),.int g]) (by rfl) (Z6c e (a g hg).1 (a g hg).2))];simp[LL,Function.comp_def]
def Z4e{fr:Ab Nat}{src:En->Aa (Ab D)}{fe:En->Aa D}{env:En}{α:Type}(b:α->D)(P:Int->Prop){xs:Ab α}(hs:src env=some (xs.map b))(i:xs.length<=1000)
  (h:∀x∈xs,∃v,fe (some (false,b x)::kQ fr env)=some (.int v)/\P v):∃vs:Ab Int,bL fr src fTT fe env=some (LI vs)/\vs.length=xs.length/\∀v∈vs,P v:=by
 let a:α->Int:=λx=>match fe (some (false,b x)::kQ fr env) with|some (.int v)=>v|_=>0
 have f:∀x∈xs,fe (some (false,b x)::kQ fr env)=some (.int (a x))/\P (a x):=λx e=>by
  obtain⟨v,h1,j⟩:=h x e;have:a x=v:=by simp only[a,h1]
  rw[this];exact⟨h1,j⟩
 refine⟨xs.map a,?_,by simp,λv hv=>?_⟩
 .rw[bI b (λx=>.int (a x)) hs i λx e=>(f x e).1];simp[LI,Function.comp_def]
 .obtain⟨x,e,rfl⟩:=QaG.mp hv;exact(f x e).2
def kc(w:Ab Nat):Aa Int:=if w=vX then some 1 else if w=O5 then some 1 else if w=Z4 then some 2 else if w=kOr then some 2 else if w=Z3 then some 2 else none
theorem Z8v(w:Ab Nat):Z0D [("fix",1),("not",1),("and",2),("or",2),("xor",2)] [SS w]=some (match kc w with|some i=>.int i|none=>.non):=by
 show some (match List.lookup (mkS w) [(Str.ofString "fix",(1:Int)),(Str.ofString "not",1),(Str.ofString "and",2),(Str.ofString "or",2),(Str.ofString "xor",2)] with|some i=>D.int i|none=>.non)=_
 rw[Z55,Z8U,Z8X,ZaL,Z8S];unfold kc;simp only[QaL,pP,List.lookup_nil];by_cases h1:w=vX
 .simp[h1]
 .by_cases h2:w=O5
  .subst h2;rfl
  .by_cases h3:w=Z4
   .subst h3;rfl
   .by_cases h4:w=kOr
    .subst h4;rfl
    .by_cases h5:w=Z3
     .subst h5;rfl
     .simp[h1,h2,h3,h4,h5]
def bnd(w:Ab Nat)(n:Int):Int:=if w=vX then 2 else n
def pZ:Row->Ab Nat×Ab Int
 | .fix b=>(vX,[b])
 | .not a=>(O5,[a])
 | .bin .and a b=>(Z4,[a,b])
 | .bin .or a b=>(kOr,[a,b])
 | .bin .xor a b=>(Z3,[a,b])
def Z59(r:Row):r.d=.tup (SS (pZ r).1::(pZ r).2.map D.int):=by
 cases r with
 |fix b=>show D.tup [.str "fix",.int b]=_;rw[Z55];rfl
 |not a=>show D.tup [.str "not",.int a]=_;rw[Z8U];rfl
 |bin k a b =>
  cases k with
  |and=>show D.tup [.str "and",.int a,.int b]=_;rw[Z8X];rfl
  |or=>show D.tup [.str "or",.int a,.int b]=_;rw[ZaL];rfl
  |xor=>show D.tup [.str "xor",.int a,.int b]=_;rw[Z8S];rfl
def fH(r:Row):Ab (Ab Nat):=(pZ r).1::bZ (pZ r).2
def tK(ins:Nat)(rows:Ab Row)(outs:Ab Int):Ab (Ab Nat):=kIns::cD ins::(rows.flatMap λr=>[47]::fH r)++[47]::kOuts::bZ outs
def K9(h:RowOk k r)(l:k<=100):∀n∈(pZ r).2,0<=n/\n<100/\n<bnd (pZ r).1 k:=by
 cases r with
 |fix b =>
  intro n e;rw[QaS.mp e];have j:b=0\/b=1:=h;have:bnd vX k=2:=if_pos rfl;show 0<=b/\b<100/\b<bnd vX k;rw[this];omega
 |not a =>
  intro n e;rw[QaS.mp e];have i:=h.ws a (by simp[Row.ws]);have:bnd O5 k=k:=if_neg (by decide);show 0<=a/\a<100/\a<bnd O5 k;rw[this];omega
 |bin kd a b =>
  have i:=h.ws a (by simp[Row.ws]);have j:=h.ws b (by simp[Row.ws]);have f:∀w:Ab Nat,w≠vX->∀n∈[a,b],0<=n/\n<100/\n<bnd w k:=λw hw n e=>by
   have:bnd w k=k:=if_neg hw;rw[this];simp only[Qad,Qa4,or_false]at e;rcases e with rfl|rfl<;>omega
  cases kd with
  |and=>exact f Z4 (by decide)
  |or=>exact f kOr (by decide)
  |xor=>exact f Z3 (by decide)
def K8(r:Row):Wo 4 (pZ r).1/\(pZ r).1≠[47]/\kc (pZ r).1=some ((pZ r).2.length:Int)/\(pZ r).2.length<=2:=by
 cases r with
 |fix b=>exact(show Wo 4 vX/\vX≠[47]/\kc vX=some ((1:Nat):Int)/\1<=2 from⟨⟨by decide,by decide,by decide⟩,by decide,by decide,by decide⟩)
 |not a=>exact(show Wo 4 O5/\O5≠[47]/\kc O5=some ((1:Nat):Int)/\1<=2 from⟨⟨by decide,by decide,by decide⟩,by decide,by decide,by decide⟩)
 |bin k a b =>
  cases k with
  |and=>exact(show Wo 4 Z4/\Z4≠[47]/\kc Z4=some ((2:Nat):Int)/\2<=2 from⟨⟨by decide,by decide,by decide⟩,by decide,by decide,by decide⟩)
  |or=>exact(show Wo 4 kOr/\kOr≠[47]/\kc kOr=some ((2:Nat):Int)/\2<=2 from⟨⟨by decide,by decide,by decide⟩,by decide,by decide,by decide⟩)
  |xor=>exact(show Wo 4 Z3/\Z3≠[47]/\kc Z3=some ((2:Nat):Int)/\2<=2 from⟨⟨by decide,by decide,by decide⟩,by decide,by decide,by decide⟩)
def T7{n:Int}(a:0<=n)(h1:n<100):Wo 4 (cD n.toNat):=(J2 (k:=1) (by omega)).mono (by decide)
def mV(m:Nat):cD m≠[47]:=λz=>by
 have:=yG m 47 (by rw[z];simp);omega
def Z20{k:Int}{r:Row}(h:RowOk k r)(j:k<=100):(∀w∈fH r,Wo 4 w)/\[47]∉fH r/\(fH r).length<=3:=by
 obtain⟨h1,f,o,l⟩:=K8 r;have b:=K9 h j;refine⟨λw hw=>?_,λi=>?_,by unfold fH bZ;rw[Qaf,Qaa];omega⟩
 .rcases Qad.mp hw with rfl|z
  .exact h1
  .obtain⟨n,a,rfl⟩:=QaG.mp z;exact T7 (b n a).1 (b n a).2.1
 .rcases Qad.mp i with z|z
  .exact f z.symm
  .obtain⟨n,a,e⟩:=QaG.mp z;exact mV _ e
theorem uI:∀(ws:Ab (Ab Nat)) (ls:Ab (Ab (Ab Nat))) (g:Ab (Ab Nat)),[47]∉ws->ws.foldl eN (ls++[g])=ls++[g++ws]
 |[],ls,g,_=>by simp
 |w::ws,ls,g,h=>by
  have hw:w≠[47]:=λz=>h (by rw[z];exact Qah);have e:eN (ls++[g]) w=ls++[g++[w]]:=by
   unfold eN;rw[if_neg hw,List.dropLast_concat,List.getLastD_concat]
  rw[Qbs,e,uI ws ls (g++[w]) λz=>h (Qab _ z)];simp
def vJ(ws:Ab (Ab Nat))(ls:Ab (Ab (Ab Nat)))(h:[47]∉ws):([47]::ws).foldl eN ls=ls++[ws]:=by
 have e:eN ls [47]=ls++[[]]:=if_pos rfl;rw[Qbs,e,uI ws ls [] h];simp
theorem yZ:∀(rows:Ab Row) (ls:Ab (Ab (Ab Nat))),(∀r∈rows,[47]∉fH r)->(rows.flatMap λr=>[47]::fH r).foldl eN ls=ls++rows.map fH
 |[],ls,_=>by simp
 |r::rows,ls,h=>by
  rw[List.flatMap_cons,Qbw,vJ _ _ (h r Qah),yZ rows _ λq hq=>h q (Qab _ hq)];simp
def Z5U:[47]∉bZ ns:=λz=>by
 obtain⟨n,a,e⟩:=QaG.mp z;exact mV _ e
def Z5Y(h:∀r∈rows,[47]∉fH r):Z6m (tK ins rows outs)=[kIns,cD ins]::rows.map fH++[kOuts::bZ outs]:=by
 unfold Z6m tK;have h1:[47]∉[kIns,cD ins]:=by
  intro z;simp only[Qad,Qa4,or_false]at z;rcases z with z|z
  .exact absurd z (by decide)
  .exact mV _ z.symm
 have b:[47]∉kOuts::bZ outs:=by
  intro z;rcases Qad.mp z with z|z
  .exact absurd z (by decide)
  .exact Z5U z
 rw[show kIns::cD ins::(rows.flatMap λr=>[47]::fH r)++[47]::kOuts::bZ outs=[kIns,cD ins]++((rows.flatMap λr=>[47]::fH r)++([47]::kOuts::bZ outs)) by simp];rw[Qbw,Qbw];have a:=uI [kIns,cD ins] [] [] h1;simp only[Qbq]at a;rw[a,yZ rows _ h,vJ _ _ b];simp
def mQ(a:RowsOk ins rows)(e:ins+rows.length<=100):∀r∈rows,(∀w∈fH r,Wo 4 w)/\[47]∉fH r/\(fH r).length<=3:=λr hm=>by
 obtain⟨i,hi⟩:=Qby hm;have b:i<rows.length:=(Qae.mp hi).1;exact Z20 (a i r hi) (by omega)
def Z8g{ins:Nat}{rows:Ab Row}{outs:Ab Int}(hi:ins<=8)(b:RowsOk ins rows)(a:ins+rows.length<=100)(e:Ho ins rows outs):∀w∈tK ins rows outs,Wo 4 w:=by
 intro w hw;unfold tK at hw;simp only[Qa5,Qad,Qai,List.mem_flatMap]at hw;rcases hw with rfl|rfl|⟨r,hm,z⟩|rfl|rfl|z
 .exact⟨by decide,by decide,by decide⟩
 .exact(J2 (k:=1) (by omega)).mono (by decide)
 .rcases z with rfl|z
  .exact⟨by decide,by decide,by decide⟩
  .exact(mQ b a r hm).1 w z
 .exact⟨by decide,by decide,by decide⟩
 .exact⟨by decide,by decide,by decide⟩
 .obtain⟨n,f,rfl⟩:=QaG.mp z;have:=e n f;exact T7 this.1 (by omega)
theorem iY:∀{rows:Ab Row},(∀r∈rows,(fH r).length<=3)->(rows.flatMap λr=>[47]::fH r).length<=4*rows.length
 |[],_=>by simp
 |r::rows,h=>by
  have h1:=iY (rows:=rows) λq hq=>h q (Qab _ hq);have a:=h r Qah;simp only[List.flatMap_cons,Qam,Qaf];omega
def Z5X(h:∀r∈rows,(fH r).length<=3)(b:rows.length<=10)(a:outs.length<=16):(tK ins rows outs).length<=60:=by
 have:=iY h;unfold tK bZ;simp only[Qa5,Qaf,Qam,Qaa];omega
def Za9(f:fa env=some (.lst ((a::mid++[z]).map SS))):fSl fa (fP (kI 1)) (fP (fC (.int (-1)))) env=some (.lst (mid.map SS)):=by
 unfold fSl;rw[f];show(if flats ((a::mid++[z]).map SS)=true then some (D.lst (PD.cutD ((a::mid++[z]).map SS) (some 1) (some (-1)))) else none)=_;rw[if_pos (kP _),Qaw,Qak];congr 2;unfold PD.cutD;generalize mid.map SS=ys;have e:(SS a::ys++[z].map SS).length=ys.length+1+1:=by simp
 have b:HT.sIx (ys.length+1+1) (ys.length+1+1) (some (-1))=ys.length+1:=by
  show(if (-1:Int)<0 then(-1+((ys.length+1+1:Nat):Int)).toNat else min (-1:Int).toNat (ys.length+1+1))=_;rw[if_pos (by decide)];omega
 rw[e,Z0Y,b];simp
def Z8k(b:fa env=some (.lst ((a::mid++[z]).map SS))):fIx fa (fC (.int (-1))) env=some (SS z):=by
 rw[ev_Ix,b,ev_C,Qaw];exact Z70 _ _
def Z6A(b:fa env=some (.lst ((a::mid++[z]).map SS))):fIx fa (fC (.int 0)) env=some (SS a):=by
 rw[ev_Ix,b,ev_C,Qa5,Qak];exact atI_0 _ _
def Z95(h:∀n∈ns,0<=n/\n<b)(q:b<=100)(p:ns.length<=400):fI C [.lst ((bZ ns).map SS),.int b]=some (LI ns):=by
 have o:(bZ ns).map SS=ns.map λn=>SS (cD n.toNat):=by unfold bZ;rw[QaV];rfl
 rw[o];generalize hL:D.lst (ns.map λn=>SS (cD n.toNat))=L;refine aZ ?_;show jJ C [oF L,oF (.int b),none,none,none]=_;unfold jJ;refine gO (d:=.lst []) rfl ?_;refine iG (ds:=ns.map λn=>SS (cD n.toNat)) (by rw[<- hL];rfl) (λi env=>∃x y,env=[oF L,oF (.int b),oT (LI (ns.take i)),x,y]) ⟨none,none,rfl⟩ ?_ ?_
 .rintro i d env hd ⟨x,y,rfl⟩;obtain⟨n,j,rfl⟩:=dW hd;have hq:=h n (QaK j);have f:=Z2p (m:=n.toNat) (by omega);have a:=rV (C:=C) (l:=cD n.toNat) ((J2 (k:=8) (by omega)).ls (by decide));rw[f]at a;refine⟨_,[oF L,oF (.int b),oT (LI (ns.take (i+1))),oF (SS (cD n.toNat)),oT (.int n)],rfl,?_,_,_,rfl⟩;refine sNo (by rw[ev_Not,ev_B,aJ (xs:=[SS (cD n.toNat)]) rfl a];rfl) ?_;have e:=Z98 f;rw[show((PySem.NumText.digitsVal (cD n.toNat):Nat):Int)=n from(X9 _).trans (Qbj hq.1)]at e
  refine gO (d:=.int n) (cM (xs:=[SS (cD n.toNat)]) rfl e) ?_;refine sNo (show some (decide (b<=n))=_ by rw[Rj (by omega)]) ?_;show fU 2 (bC (aD 4)) [oF L,oF (.int b),oT (LI (ns.take i)),oF (SS (cD n.toNat)),oT (.int n)]=_;rw[hJ (d:=.int n) rfl rfl (by rw[Qaa,Qat];omega),Qbm,j];simp[LI]
 .rintro env ⟨x,y,rfl⟩;rw[Qaa,QaD];rfl
def Z9F:∀{i:Nat},i<=8->qR C [SS (jn [kIns,cD i])]=some (.int i)
 |0,_|1,_|2,_|3,_|4,_|5,_|6,_|7,_|8,_=>by kernel_rfl
 |n+9,h=>absurd h (by omega)
def Z7H(b:∀a∈outs,0<=a/\a<n)(f:n<=100)(h1:0<outs.length)(h:outs.length<=16):oI C [SS (jn (kOuts::bZ outs)),.int n]=some (LI outs):=by
 have i:(bZ outs).length=outs.length:=Qaa _;have hw:∀w∈kOuts::bZ outs,Wo 9 w:=λw hw=>by
  rcases Qad.mp hw with rfl|z
  .exact⟨by decide,by decide,by decide⟩
  .exact oB (λa ha=>⟨(b a ha).1,by have:=(b a ha).2;omega⟩) w z
 refine aZ ?_;show oO C [oF (SS (jn (kOuts::bZ outs))),oF (.int n),none]=_;unfold oO;refine gO (rJ (Z5 hw (by rw[Qaf];omega)) rfl) ?_;rw[O6 hw (by simp)];generalize SS (jn (kOuts::bZ outs))=L;show aM _ _ [oF L,oF (.int n),oT (.lst ((kOuts::bZ outs).map SS))]=_;have e:=Z8j (ws:=kOuts::bZ outs) (fa:=aD 2) (env:=[oF L,oF (.int n),oT (.lst ((kOuts::bZ outs).map SS))]) rfl;refine sNo (by rw[ev_Not,eqS (w:=kOuts) Z4Y (rX (w:=kOuts) (ws:=bZ outs) rfl)];rfl) ?_;refine sNo (by
  rw[ev_Or,ev_BI,e,ev_C,ev_BI,ev_I0',e,ev_C,ev_C];dsimp only;rw[Rj (by rw[Qaf];omega),Rj (by rw[Qaf];omega)]) ?_
 exact bW (aJ (xs:=[.lst ((bZ outs).map SS),.int n]) (aI (wD (w:=kOuts) rfl) rfl) (Z95 b f (by omega)))
theorem Z9E(h:RowOk k r)(hk:k<=100):qQ C [SS (jn (fH r)),.int k]=some r.d:=by
 obtain⟨hw,_,hl⟩:=Z20 h hk;obtain⟨_,_,q3,q4⟩:=K8 r;have q5:=K9 h hk;rw[Z59];unfold fH at *
 generalize (pZ r).1=w at *
 generalize (pZ r).2=ns at *
 refine aZ ?_;show qV C [oF (SS (jn (w::bZ ns))),oF (.int k),none,none,none]=_;unfold qV;refine gO (rJ (Z5 hw (by omega)) rfl) ?_;rw[O6 hw (by simp)];generalize SS (jn (w::bZ ns))=L;refine gO (d:=SS w) (by rw[ev_Flat];show(match fIx (aD 2) (fC (.int 0)) [oF L,oF (.int k),oT (.lst ((w::bZ ns).map SS)),none,none] with|some d=>_|none=>_)=_;rw[rX (w:=w) (ws:=bZ ns) rfl];rfl) ?_
 show aM _ _ [oF L,oF (.int k),oT (.lst ((w::bZ ns).map SS)),oT (SS w),none]=_;have e2:=Z8j (ws:=w::bZ ns) (fa:=aD 2) (env:=[oF L,oF (.int k),oT (.lst ((w::bZ ns).map SS)),oT (SS w),none]) rfl;refine sNo (by
  rw[ev_Not,ev_Eq,cM (xs:=[SS w]) rfl (Z8v w),ev_I0',e2,ev_C,q3];dsimp only;rw[eqN_int,Qaf,show(bZ ns).length=ns.length from Qaa _,Rk (by omega)]
  rfl) ?_
 have e4:=eqS (w:=w) Z55 (show aD 3 [oF L,oF (.int k),oT (.lst ((w::bZ ns).map SS)),oT (SS w),none]=some (SS w) from rfl)
 refine gO (d:=.int (bnd w k)) (by
  rw[ev_If,e4];unfold bnd;by_cases hf:w=vX
  .rw[Rk hf,if_pos hf];rfl
  .rw[Rj hf,if_neg hf];rfl) ?_
 show bQ _ [oF L,oF (.int k),oT (.lst ((w::bZ ns).map SS)),oT (SS w),oT (.int (bnd w k))]=_;have nb:=Z95 (C:=C) (ns:=ns) (b:=bnd w k) (λn hn=>⟨(q5 n hn).1,(q5 n hn).2.2⟩) (by unfold bnd;split<;>omega) (by omega);have fl:flats (SS w::ns.map D.int)=true:=by show(flat (SS w)&&flats (ns.map D.int))=true;rw[dP];rfl
 refine bW (cM (xs:=[.lst (SS w::ns.map D.int)]) (aI ?_ rfl) (by simp only[uR,fl,Rm]));rw[ev_cat,aJ (xs:=[.lst ((bZ ns).map SS),.int (bnd w k)]) (aI (wD (w:=w) rfl) rfl) nb];show(if [SS w].length+(ns.map D.int).length<=1000 then some (D.lst ([SS w]++ns.map D.int)) else none)=_;rw[if_pos (by simp only[Qaa,Qaf,Qa8];omega)];rfl
def Z5d(hi:ins<=8)(n:RowsOk ins rows)(y:rows.length<=10)(q:Ho ins rows outs)(h1:0<outs.length)(v:outs.length<=16) :
  N7 C [.lst ((Z6m (tK ins rows outs)).map λl=>SS (jn l))]=some (bD C ins rows outs):=by
 have u:=mQ n (by omega);rw[Z5Y (λr h=>(u r h).2.1)];have o:([kIns,cD ins]::rows.map fH++[kOuts::bZ outs]).map (λl=>SS (jn l))=(jn [kIns,cD ins]::rows.map (λr=>jn (fH r))++[jn (kOuts::bZ outs)]).map SS:=by simp
 rw[o];have e:∀x1 x2 x3,fB1 bV (aC (aD 0) aH) [oF (.lst ((jn [kIns,cD ins]::rows.map (λr=>jn (fH r))++[jn (kOuts::bZ outs)]).map SS)),x1,x2,x3]=some (.int ((rows.length+2:Nat):Int)):=λx1 x2 x3=>by
  rw[Z8j (ws:=jn [kIns,cD ins]::rows.map (λr=>jn (fH r))++[jn (kOuts::bZ outs)]) rfl];simp;omega
 have fe:=λenv=>Z6A (env:=env) (a:=jn [kIns,cD ins]) (z:=jn (kOuts::bZ outs)) (mid:=rows.map λr=>jn (fH r)) (fa:=aD 0);have t:=λenv=>Z8k (env:=env) (a:=jn [kIns,cD ins]) (z:=jn (kOuts::bZ outs)) (mid:=rows.map λr=>jn (fH r)) (fa:=aD 0);have p:=λenv=>Za9 (env:=env) (a:=jn [kIns,cD ins]) (z:=jn (kOuts::bZ outs)) (mid:=rows.map λr=>jn (fH r)) (fa:=aD 0);generalize D.lst ((jn [kIns,cD ins]::rows.map (λr=>jn (fH r))++[jn (kOuts::bZ outs)]).map SS)=L at *
 refine aZ ?_;show Z1s C [oF L,none,none,none]=_;unfold Z1s;refine sNo (by rw[ev_BI,e,ev_C];dsimp only;rw[Rj (by omega)]) ?_;refine sNo (by rw[ev_BI,ev_I0',e,ev_C,ev_C];dsimp only;rw[Rj (by omega)]) ?_;refine gO (d:=.int (ins:Int)) (aJ (xs:=[SS (jn [kIns,cD ins])]) (aI (fe _ rfl) rfl) (Z9F hi)) ?_;refine gO (d:=.lst []) rfl ?_;refine iG (ds:=rows.map λr=>SS (jn (fH r))) (by rw[ev_seq,p _ rfl,QaV];rfl) (λi env=>∃x,env=[oF L,oT (.int (ins:Int)),oT (.lst ((rows.take i).map Row.d)),x]) ⟨none,rfl⟩ ?_ ?_
 .rintro i d env hd ⟨x,rfl⟩;obtain⟨r,b,rfl⟩:=dW hd;have w:i<rows.length:=(Qae.mp b).1;have f:(rows.take i).length=i:=by rw[Qat];omega
  refine⟨_,[oF L,oT (.int (ins:Int)),oT (.lst ((rows.take (i+1)).map Row.d)),oF (SS (jn (fH r)))],rfl,?_,_,rfl⟩;show fU 2 _ [oF L,oT (.int (ins:Int)),oT (.lst ((rows.take i).map Row.d)),oF (SS (jn (fH r)))]=_;rw[hJ (d:=r.d) (aJ (xs:=[SS (jn (fH r)),.int ((ins+i:Nat):Int)]) (aI rfl (aI (Z9c (i:=(ins:Int)) (j:=(i:Int)) rfl (cM (xs:=[.lst ((rows.take i).map Row.d)]) rfl (by simp only[bV,Qaa,f]))) rfl)) (Z9E (n i r b) (by omega))) rfl (by rw[Qaa];omega),Qbm,b];simp
 .rintro env ⟨x,rfl⟩;rw[Qaa,QaD];refine bW (cM (xs:=[.int (ins:Int),.lst (rows.map Row.d),LI outs]) (aI rfl (aI rfl (aI (aJ (xs:=[SS (jn (kOuts::bZ outs)),.int ((ins+rows.length:Nat):Int)]) (aI (t _ rfl) (aI (Z9c (i:=(ins:Int)) (j:=(rows.length:Int)) rfl (cM (xs:=[.lst (rows.map Row.d)]) rfl (by simp only[bV,Qaa]))) rfl)) (Z7H q (by omega) h1 v)) rfl))) (Z2u (by omega)))
def Z2y:Ab Nat:=[102,97,117,108,116,115]
def Z97:Ab Nat:=[105,100,108,101]
def Z38:dF C [SS Z2y]=some (.tup [.str "faults"]):=by kernel_rfl
def Z7j:dF C [SS Z97]=some (.tup [.str "idle"]):=by kernel_rfl
def N2(h:Nm n):jB C [SS (cD n.toNat)]=some (.int n):=by
 have b:=Z2p (m:=n.toNat) (by have:=h.1;have:=h.2;omega);have a:=rV (C:=C) ((oB (ns:=[n]) (by simpa using h) _ Qah).ls (by decide));rw[b]at a;have e:=Z98 b;rw[show((PySem.NumText.digitsVal (cD n.toNat):Nat):Int)=n from(X9 _).trans (Qbj h.1)]at e
 refine aZ ?_;show oP C [oF (SS (cD n.toNat))]=_;unfold oP;exact sNo (by rw[ev_Not,ev_B,aJ (xs:=[SS (cD n.toNat)]) rfl a];rfl) (bW (cM (xs:=[SS (cD n.toNat)]) rfl e))
def iD(bs:Ab Int):Ab Nat:=bs.map λb=>48+b.toNat
def Z2T(f:∀b∈bs,Bt b)(a:0<bs.length)(e:bs.length<=16):Wo 16 (iD bs):=by
 refine⟨λc hc=>?_,λz=>?_,?_⟩
 .obtain⟨b,h,rfl⟩:=QaG.mp hc;rcases f b h with rfl|rfl<;>decide
 .rw[List.map_eq_nil_iff.mp z]at a;simp at a
 .unfold iD;rw[Qaa];exact e
def Z1L(a:∀b∈bs,Bt b)(f:0<bs.length)(e:bs.length<=16):pT C [SS (iD bs)]=some (LI bs):=by
 have sq:sH (aD 0) [oF (SS (iD bs))]=some (bs.map λb=>D.str ⟨#[48+b.toNat]⟩):=by
  rw[ev_seqS];simp only[ev_var,Qaz,QaN,Qav,SS,Z2W ((Z2T a f e).ls (by decide)),Rm,qG,cU];rw[iD,QaV];rfl
 have k1:bL [] (sH (aD 0)) fTT (uJ (fIn (aD 0) (fC (.str "01")))) [oF (SS (iD bs))]=some (.lst (bs.map λ_=>D.bl true)):=by
  refine bI (λb=>.str ⟨#[48+b.toNat]⟩) (λ_=>.bl true) sq (by omega) λb h=>?_;rcases a b h with rfl|rfl<;>kernel_rfl
 have k3:Z4E [.lst (bs.map λ_=>D.bl true)]=some (.bl true):=by
  show(jP _).map _=_;rw[qZ (λ_=>true)];simp
 refine aZ ?_;show uG C [oF (SS (iD bs))]=_;unfold uG;exact sNo (by rw[ev_Not,ev_B,cM (aI k1 rfl) k3];rfl) (bW (bI (λb=>.str ⟨#[48+b.toNat]⟩) D.int sq (by omega) λb h=>by rcases a b h with rfl|rfl<;>kernel_rfl))
def Pr(m:Nat)(p:Int×Ab Int):Prop:=Nm p.1/\(∀b∈p.2,Bt b)/\p.2.length=m
def prW(ps:Ab (Int×Ab Int)):Ab (Ab Nat):=ps.flatMap λp=>[cD p.1.toNat,iD p.2]
def Zb3(f:0<m)(e:m<=16)(h:∀p∈ps,Pr m p):∀w∈prW ps,Wo 16 w:=λw hw=>by
 obtain⟨p,hp,z⟩:=List.mem_flatMap.mp hw;have ⟨a,b,c⟩:=h p hp;simp only[Qad,Qa4,or_false]at z;rcases z with rfl|rfl
 .exact(oB (ns:=[p.1]) (by simpa using a) _ Qah).mono (by decide)
 .exact Z2T b (by omega) (by omega)
def wK(ps:Ab (Int×Ab Int)):(prW ps).length=2*ps.length:=by
 induction ps with
 |nil=>rfl
 |cons p ps ih=>show(prW ps).length+1+1=_;rw[ih,Qaf];omega
def Z5G(i:Nat)(hi:i<2)(he:aD 0 env=some (.lst ((prW ps).map SS)))(a:fl env=some (if i=0 then none else some 1)) :
  vK (aD 0) fl (fP (fC (.int 2))) env=some (.lst (ps.map λp=>if i=0 then SS (cD p.1.toNat) else SS (iD p.2))):=by
 have e:(prW ps).map SS=(ps.map λp=>(SS (cD p.1.toNat),SS (iD p.2))).flatMap λq=>[q.1,q.2]:=by
  unfold prW;rw[List.flatMap_map,List.map_flatMap];rfl
 have l:((prW ps).map SS).length=2*(ps.map λp=>(SS (cD p.1.toNat),SS (iD p.2))).length:=by rw[Qaa,Qaa,wK]
 unfold vK;rw[he,a];show(if flats ((prW ps).map SS)=true/\some (2:Int)≠some 0 then some (D.lst ((pkI _ (some 2) ((prW ps).map SS).length).filterMap (((prW ps).map SS)[·]?))) else none)=_;rw[if_pos ⟨kP _,by decide⟩,l,e,Z9Y i hi,QaV];rfl
def yJ(u:0<m)(r:m<=16)(q:0<ps.length)(t:ps.length<=4)(h:∀p∈ps,Pr m p) :
  lG C [.lst ((prW ps).map SS)]=some (.tup [.str "named",LI (ps.map Prod.fst),LL (ps.map Prod.snd)]):=by
 have hpl:=wK ps;refine aZ ?_;show lK C [oF (.lst ((prW ps).map SS)),none]=_;unfold lK;have n:(0:Int)<2:=by decide
 have l:fEq (aD 0) (dN aH) [oF (.lst ((prW ps).map SS)),none]=some false:=by
  show eqN 8 (.lst ((prW ps).map SS)) (.lst [])=_;rw[sI,if_neg (by rw[Qaa,hpl];simp only[Qa8];omega)]
 have o:fI2 (λ_ j=>0<j) (λi j=>.int (i%j)) (fB1 bV (aC (aD 0) aH)) (fC (.int 2)) [oF (.lst ((prW ps).map SS)),none]=some (.int 0):=by
  rw[nL (C:=λ_ j=>0<j) (Z8j (ws:=prW ps) rfl) (ev_C (d:=.int 2)) n,hpl,show(((2*ps.length:Nat):Int)%2)=0 by omega]
 refine sNo (by rw[ev_Or,l];show(mL _ _)=_;rw[ev_Not,ev_Eq,o];rfl) ?_;have f:bL [] (cR (vK (aD 0) gG (fP (fC (.int 2))))) fTT (aL (jB C) [] (aC (aD 0) aH)) [oF (.lst ((prW ps).map SS)),none]=some (LI (ps.map Prod.fst)):=by
  rw[bI (xs:=ps) (λp=>if 0=0 then SS (cD p.1.toNat) else SS (iD p.2)) (λp=>.int p.1) (dS (Z5G 0 (by decide) rfl rfl)) (by omega) λp hp=>?_]
  .simp[LI,Function.comp_def]
  .obtain⟨a,_,_⟩:=h p hp;exact aJ (xs:=[SS (cD p.1.toNat)]) rfl (N2 a)
 have e:∀x,bL [] (cR (vK (aD 0) (fP (fC (.int 1))) (fP (fC (.int 2))))) fTT (aL (pT C) [] (aC (aD 0) aH)) [oF (.lst ((prW ps).map SS)),x]=some (LL (ps.map Prod.snd)):=λx=>by
  rw[bI (xs:=ps) (λp=>if 1=0 then SS (cD p.1.toNat) else SS (iD p.2)) (λp=>LI p.2) (dS (Z5G 1 (by decide) rfl rfl)) (by omega) λp hp=>?_]
  .simp[LL,Function.comp_def]
  .obtain⟨_,b,c⟩:=h p hp;exact aJ (xs:=[SS (iD p.2)]) rfl (Z1L b (by omega) (by omega))
 exact gO f (W6 (qX rfl (nD rfl (qX (e _) rfl))) (by simp))
def U3(f:0<m)(b:m<=16)(e:0<ps.length)(i:ps.length<=4)(h:∀p∈ps,Pr m p) :
  (∀w∈kNamed::prW ps,Wo 16 w)/\(kNamed::prW ps).length*(16+1)<=400/\dF C [SS (jn (kNamed::prW ps))]=some (.tup [.str "named",LI (ps.map Prod.fst),LL (ps.map Prod.snd)]):=by
 have j:=yJ (C:=C) f b e i h;have hw:∀w∈kNamed::prW ps,Wo 16 w:=λw hw=>by
  rcases Qad.mp hw with rfl|z
  .exact⟨by decide,by decide,by decide⟩
  .exact Zb3 f b h w z
 have a:(kNamed::prW ps).length*(16+1)<=400:=by rw[Qaf,wK];omega
 refine⟨hw,a,aZ ?_⟩;show gI C [oF (SS (jn (kNamed::prW ps))),none,none]=_;unfold gI;refine gO (rJ (Z5 hw a) rfl) ?_;rw[O6 hw (by simp)];generalize SS (jn (kNamed::prW ps))=L;show aM _ _ [oF L,oT (.lst ((kNamed::prW ps).map SS)),none]=_;have l:([]:Ab Nat)∉kNamed::prW ps:=λz=>(hw [] z).2.1 rfl;refine sNo (by rw[Z0h rfl,Rj l]) ?_;refine sNo (by rw[eqS (w:=kNamed) Z4Z (rX (w:=kNamed) (ws:=prW ps) (fa:=aD 1) rfl)];rfl) ?_;exact tE (by rw[eqS (w:=kNamed) Z8V (rX (w:=kNamed) (ws:=prW ps) (fa:=aD 1) rfl)];rfl) (lY (aJ (xs:=[.lst ((prW ps).map SS)]) (aI (wD (w:=kNamed) rfl) rfl) j))
def Q1(a:0<=g):g/2^n=0↔g<((2^n:Nat):Int):=by
 have hp:(0:Int)<2^n:=Int.pow_pos (by decide);rw[show((2^n:Nat):Int)=(2:Int)^n by simp];constructor
 .intro h;have:=Qas g hp;have e:=Int.mul_ediv_add_emod g (2^n);rw[h]at e;omega
 .intro h;exact Int.ediv_eq_zero_of_lt a h
def A6{C:Af}{ins:Nat}{rows:Ab Row}{outs:Ab Int}{g:Int}(a:0<=g)(h:g<((2^ins:Nat):Int)):jX C [bD C ins rows outs,.int g]=some .non:=by
 have fi:=pV (C:=C) (ins:=ins) (rows:=rows) (outs:=outs) (fa:=aD 0) (env:=[oF (bD C ins rows outs),oF (.int g)]) rfl;refine Z7F (e:=[oF (bD C ins rows outs),oF (.int g)]) ?_;show rIf _ _ _ [oF (bD C ins rows outs),oF (.int g)]=_;unfold rIf;rw[ev_Not,ev_Eq,nL (i:=g) (j:=(ins:Int)) rfl fi (by omega),ev_C];dsimp only;rw[eqN_int,QaO,Rk ((Q1 a).mpr h)];rfl
def Zbx(h:flats (x::xs)=true){fa:En->Aa D}{env:En}(a:fa env=some (.tup (x::xs))):fSl fa (fP (kI 1)) gG env=some (.tup xs):=by
 unfold fSl;rw[a];show(if flats (x::xs)=true/\¬(HT.sIx (x::xs).length 0 (some 1)=0/\HT.sIx (x::xs).length (x::xs).length none=(x::xs).length) then some (D.tup (PD.cutD (x::xs) (some 1) none)) else none)=_;rw[Qaf,Z0Y,if_pos ⟨h,λz=>absurd z.1 (by omega)⟩,Z4c]
def jN:Flt->Ab Nat
 | .none=>[103,111,111,100]
 |f=>jn (bZ (zB f))
def Z2L(a:f ≠ .none):jN f=jn (bZ (zB f)):=by cases f<;>first|rfl|exact absurd rfl a
def FN(f:Flt):Prop:=∀n∈zB f,Nm n
def P8(e:f ≠ .none)(a:FN f){env:En}{fa:En->Aa D}(he:fa env=some f.d):iI (fC (.str " ")) (bL [] (cR (fSl fa (fP (fC (.int 1))) gG)) fTT (fB1 wC (aC (aD 0) aH))) env=some (SS (jN f)):=by
 have h:fSl fa (fP (fC (.int 1))) gG env=some (.tup ((zB f).map D.int)):=by
  cases f with
  |none=>exact absurd rfl e
  |wire w b=>exact Zbx rfl he
  |leg w l b=>exact Zbx rfl he
 have i:(zB f).length<=3:=by cases f<;>simp[zB]
 rw[Z2L e];refine wP (oB a) (by unfold bZ;rw[Qaa];omega) ?_;rw[bI D.int (λn=>SS (cD n.toNat)) (xs:=zB f) (by rw[ev_seq,h]) (by omega) (λn hn'=>cM (xs:=[.int n]) rfl (Z08 (a n hn').1 (a n hn').2))];unfold bZ;rw[QaV];rfl
def Z6z(b:FN f):(jN f).length<=400:=by
 by_cases a:f=.none
 .subst a;decide
 .have e:(zB f).length<=3:=by cases f<;>simp[zB]
  rw[Z2L a];exact(Z5 (oB b) (by unfold bZ;rw[Qaa];omega)).2
def qH(fs:Ab Flt):D:=if fs=[] then .str "none" else .str (Txt.join " / " (fs.map λf=>mkS (jN f)))
def xJ(fs:Ab Flt):∃x,qH fs=.str x:=by unfold qH;split<;>exact⟨_,rfl⟩
def Z54:Str.ofString "good" = mkS [103,111,111,100]:=by decide +kernel
def zD(a:FN f):lI C [f.d]=some (SS (jN f)):=by
 refine aZ ?_;show lM C [oF f.d]=_;unfold lM;cases f with
 |none=>exact tE rfl (lY (by rw[ev_C,Z54];rfl))
 |wire w b=>exact sNo rfl (bW (P8 (by simp) a rfl))
 |leg w l b=>exact sNo rfl (bW (P8 (by simp) a rfl))
def Z2z(i:∀f∈fs,FN f)(l:fs.length<=500)(e:fs≠[]){env:En}{fa:En->Aa D}(he:fa env=some (.lst (fs.map λf=>SS (jN f)))):iI (fC (.str " / ")) fa env=some (qH fs):=by
 have hs:∀a:Ab Flt,(∀f∈a,FN f)->((a.map λf=>mkS (jN f)).map (·.length)).sum<=a.length*400:=by
  intro a
  induction a with
  |nil=>intro _;simp
  |cons f a ih =>
   intro h;have h1:=ih λg hg=>h g (Qab _ hg);have b:=Z6z (h f Qah);simp only[Qak,List.sum_cons,Qaf,jW];omega
 have h1:=hs fs i;have b:nS (fs.map λf=>SS (jN f))=some (fs.map λf=>mkS (jN f)):=by
  have:=xA (fs.map jN);rw[QaV,QaV]at this;exact this
 have j:((fs.map λf=>mkS (jN f)).map (·.length)).sum+(fs.map λf=>mkS (jN f)).length*(Str.ofString " / ").length<=1000000:=by
  have:(Str.ofString " / ").length=3:=by decide +kernel
  rw[this,Qaa];omega
 unfold iI qH;rw[he];simp only[fC,b,j,Rm,if_neg e]
def Zal:eqN 8 (.lst (xs.map φ)) (.lst [])=some (decide (xs=[])):=by
 rw[sI];cases xs with
 |nil=>rfl
 |cons x xs=>rw[if_neg (by simp)];simp
def nK(a:∀f∈fs,FN f)(b:fs.length<=500):fW C [.lst (fs.map Flt.d)]=some (qH fs):=by
 refine aZ ?_;show kN C [oF (.lst (fs.map Flt.d))]=_;unfold kN;have e:fEq (aD 0) (dN aH) [oF (.lst (fs.map Flt.d))]=some (decide (fs=[])):=Zal;by_cases h:fs=[]
 .subst h;exact tE rfl (lY rfl)
 .refine sNo (by rw[e,Rj h]) (bW (Z2z a b h ?_));exact bI Flt.d (λf=>SS (jN f)) (xs:=fs) rfl (by omega) λf hf=>aJ (xs:=[f.d]) rfl (zD (a f hf))
def Z2w(n:∀f∈fs,FN f)(p:fs.length<=500):pQ C [.lst (fs.map Flt.d)]=some (qH fs):=by
 refine aZ ?_;show uC C [oF (.lst (fs.map Flt.d)),none,none]=_;unfold uC;have e:fEq (fB1 bV (aC (aD 0) aH)) (fC (.int 0)) [oF (.lst (fs.map Flt.d)),none,none]=some (decide (fs=[])):=by
  rw[ev_Eq,cM (xs:=[.lst (fs.map Flt.d)]) rfl (show bV [.lst (fs.map Flt.d)]=some (.int (fs.length:Int)) by simp only[bV,Qaa]),ev_C];show eqN 8 (.int _) (.int 0)=_;rw[eqN_int];cases fs<;>simp;omega
 by_cases h:fs=[]
 .subst h;exact tE rfl (lY rfl)
 .refine sNo (by rw[e,Rj h]) (gO (d:=.lst []) rfl ?_);refine iG (ds:=fs.map Flt.d) rfl (λi env=>∃o x,env=[some (o,.lst (fs.map Flt.d)),oT (.lst ((fs.take i).map λf=>SS (jN f))),x]) ⟨_,_,rfl⟩ ?_ ?_
  .rintro i d env hd ⟨o,x,rfl⟩;obtain⟨f,b,rfl⟩:=dW hd;have hi:i<fs.length:=(Qae.mp b).1;have l:((fs.take i).map λf=>SS (jN f)).length<=1000:=by rw[Qaa,Qat];omega
   have q:(fs.take (i+1)).map (λf=>SS (jN f))=(fs.take i).map (λf=>SS (jN f))++[SS (jN f)]:=by rw[Qbm,b];simp
   refine⟨_,[some (o,.lst (fs.map Flt.d)),oT (.lst ((fs.take (i+1)).map λf=>SS (jN f))),oF f.d],rfl,?_,_,_,rfl⟩;have a:∀{fe:En->Aa D},fe [some (o,.lst (fs.map Flt.d)),oT (.lst ((fs.take i).map λf=>SS (jN f))),oF f.d]=some (SS (jN f))->fU 1 fe [some (o,.lst (fs.map Flt.d)),oT (.lst ((fs.take i).map λf=>SS (jN f))),oF f.d]=.next [some (o,.lst (fs.map Flt.d)),oT (.lst ((fs.take (i+1)).map λf=>SS (jN f))),oF f.d]:=λhe=>by
    rw[hJ he rfl l,q];rfl
   by_cases j:f=.none
   .subst j;exact a (fe:=fC (.str "good")) (by rw[ev_C,Z54];rfl)
   .have r:lO false (aD 2) [some (o,.lst (fs.map Flt.d)),oT (.lst ((fs.take i).map λf=>SS (jN f))),oF f.d]=some false:=by cases f<;>first|rfl|exact absurd rfl j
    show rIf _ _ _ [some (o,.lst (fs.map Flt.d)),oT (.lst ((fs.take i).map λf=>SS (jN f))),oF f.d]=_;unfold rIf;rw[r];exact a (P8 j (n f (QaK b)) rfl)
  .rintro env ⟨o,x,rfl⟩;rw[Qaa,QaD];exact bW (Z2z n p h rfl)
def Z2N:eqN (n+2) (LI xs) (LI ys)=some (decide (xs=ys)):=by
 by_cases h:xs.length=ys.length
 .exact Zap h
 .unfold LI;rw[sI,if_neg (by simpa using h),Rj (λz=>h (by rw[z]))]
theorem Z2O:∀{b a:Ab (Ab Int)},b.length=a.length->eqL (eqN (n+2)) (b.map LI) (a.map LI)=some (decide (b=a))
 |[],[],_=>by simp[eqL_nil]
 |x::xs,y::ys,h=>by
  rw[Qak,Qak,eqL_cons,Z2N,Z2O (by simpa using h)];by_cases h1:x=y
  .by_cases e:xs=ys
   .simp[h1,e]
   .simp[h1,e]
  .simp[h1]
 |[],_::_,h=>by simp at h
 |_::_,[],h=>by simp at h
def Z6D:eqN (n+3) (LL xss) (LL yss)=some (decide (xss=yss)):=by
 unfold LL;rw[sI];by_cases h:xss.length=yss.length
 .rw[if_pos (by simpa using h),Z2O h]
 .rw[if_neg (by simpa using h),Rj (λz=>h (by rw[z]))]
def qU(hs:ins+rows.length<64)(f:outs.length<=100)(a:RowsOk ins rows)(b:Ho ins rows outs) :
  hV C [bD C ins rows outs]=some (.lst ((Flt.none::bT ins rows outs).map Flt.d)):=by
 have e:=lP (C:=C) hs f a b;have fl:=fY a b;refine aZ (bW ?_);have h1:aL (fF C) [] (aC (aD 0) aH) (enStart 1 [bD C ins rows outs])=some (.lst ((bT ins rows outs).map Flt.d)):=aJ (xs:=[bD C ins rows outs]) rfl e;have h:dN (aC (fC .non) aH) (enStart 1 [bD C ins rows outs])=some (.lst [.non]):=rfl;have i:[D.non].length+((bT ins rows outs).map Flt.d).length<=1000:=by rw[Qaa,QaX];omega
 simp only[ev_cat,h1,h,i,Rm,Qa5,Qbq,Qak,Flt.d]
def lD(ins:Nat)(rows:Ab Row)(outs tests:Ab Int)(told:Ab (Ab Int)):Ab Flt:=(Flt.none::bT ins rows outs).filter λf=>decide (tests.map (iJ (aS ins rows f) outs)=told)
def Z2K(a:RowsOk ins rows):∀f∈Flt.none::bT ins rows outs,FltOk ins rows f:=λf hf=>by
 rcases Qad.mp hf with z|z
 .rw[z];exact .no
 .exact(qW a f z).1
def Z5Z(hi:ins<=8)(hs:ins+rows.length<64)(l:outs.length<=100)(a:RowsOk ins rows)(b:Ho ins rows outs)(o:∀g∈tests,0<=g)(e:tests.length<=1000) :
  N8 C [bD C ins rows outs,LI tests,LL told]=some (.lst ((lD ins rows outs tests told).map Flt.d)):=by
 have i:=qU (C:=C) hs l a b;have fl:=fY a b;have q:=Z2K (outs:=outs) a;unfold lD;have h:(Flt.none::bT ins rows outs).length<=1000:=by rw[Qaf];omega
 generalize Flt.none::bT ins rows outs=FS at *
 refine aZ (bW ?_);refine jZ Flt.d Flt.d (λf=>decide (tests.map (iJ (aS ins rows f) outs)=told)) (xs:=FS) (dS (aJ (xs:=[bD C ins rows outs]) rfl i)) h ?_ ?_
 .intro f j;have an:=Z1N (C:=C) hi (by omega) a (q f j) (by omega) b o e;have p:aL (mG C) [] (aC (aD 2) (aC (aD 3) (aC (aD 0) aH))) [oF f.d,oF (LL told),oF (bD C ins rows outs),oF (LI tests)]=some (LL (tests.map (iJ (aS ins rows f) outs))):=aJ (xs:=[bD C ins rows outs,LI tests,f.d]) rfl an;show fEq _ (aD 1) [oF f.d,oF (LL told),oF (bD C ins rows outs),oF (LI tests)]=_;simp only[ev_Eq,p,ev_var,Qaz,QaY,QaN,Qav];exact Z6D (n:=5)
 .intro f _ _;have:=mJ f;simp only[ev_Flat,ev_var,Qaz,QaN,Qav,this,Rm]
def eR(ins:Nat)(rows:Ab Row)(outs:Ab Int)(f:Flt):D:=.tup [f.d,LI (outs.map (nth (aS ins rows f)))]
def rW(ins:Nat)(rows:Ab Row)(outs:Ab Int):Ab Flt:=(bT ins rows outs).filter λf=>decide (C6 ins rows outs f=0)
def Z8s(hi:ins<=8)(hs:ins+rows.length<64)(a:RowsOk ins rows)(h:outs.length<=100)(b:Ho ins rows outs) :
  N9 C [bD C ins rows outs]=some (.lst ((rW ins rows outs).map Flt.d)):=by
 have e:=lP (C:=C) hs h a b;have fl:=fY a b;have te:=U1 (C:=C) (fs:=bT ins rows outs) hi (by omega) a (λf hf=>(qW a f hf).1) (by omega) b (by omega);refine aZ ?_;unfold Z6t rW;generalize bT ins rows outs=FS at *
 refine gO (aJ (xs:=[bD C ins rows outs]) rfl e) ?_;refine bW ?_;refine jZ (λf=>.tup [Flt.d f,.int (C6 ins rows outs f)]) Flt.d (λf=>decide (C6 ins rows outs f=0)) (xs:=FS) (eY (xs:=[.lst (FS.map Flt.d),LI (FS.map (C6 ins rows outs))]) (aI rfl (aI (aJ (xs:=[bD C ins rows outs,.lst (FS.map Flt.d)]) rfl te) rfl)) ?_) (by omega) ?_ ?_
 .simp only[Z0y,LI,QaV];rw[wS];rfl
 .intro f _;rw[sX];simp only[ev_Eq,ev_var,ev_C,Qaz,QaY,QaN,Qav,eqN_int]
 .intro f _ _;rw[sX];have:=mJ f;simp only[ev_Flat,ev_var,Qaz,QaN,Qav,this,Rm]
def Z1v(hs:ins+rows.length<=100)(i:RowsOk ins rows)(l:Ho ins rows outs):∀f∈Flt.none::bT ins rows outs,FN f:=λf hf=>by
 rcases Qad.mp hf with rfl|hf
 .intro n e;cases e
 obtain⟨w,hw,h⟩:=List.mem_flatMap.mp hf;have b:=oG i l w hw;unfold cS at h;rcases Qai.mp h with z|z
 .obtain⟨c,hc,rfl⟩:=QaG.mp z;have:=pX i hc;intro n e;simp only[zB,Qad,Qa4,or_false]at e;unfold Nm;rcases e with rfl|rfl<;>omega
 .obtain⟨j,a,c,h1,o,rfl⟩:=lF z;have:=pX i o;have p:=(Qae.mp h1).1;have:=gR (ins:=ins) (rows:=rows) (w:=w);intro n e;simp only[zB,Qad,Qa4,or_false]at e;unfold Nm;rcases e with rfl|rfl|rfl<;>omega
section
variable {C a:Af}{ins:Nat}{rows:Ab Row}{outs:Ab Int}
structure Dr(ins:Nat)(rows:List Row)(outs:List Int):Prop where
 i:ins<=5
 r:RowsOk ins rows
 l:rows.length<=10
 o1:0<outs.length
 o2:outs.length<=16
 o:Ho ins rows outs
def yI(Y:Dr ins rows outs){ps:Ab (Int×Ab Int)}(w:ps.length<=4)(h:∀p∈ps,Pr outs.length p/\p.1<((2^ins:Nat):Int)) :
  iV C [bD C ins rows outs,LI (ps.map Prod.fst),LL (ps.map Prod.snd)]=some (qH (lD ins rows outs (ps.map Prod.fst) (ps.map Prod.snd))):=by
 have v:=Y.i;have u:=Y.l;have A:=Y.o2;have nm:=Z5Z (C:=C) (tests:=ps.map Prod.fst) (told:=ps.map Prod.snd) (by omega) (by omega) (by omega) Y.r Y.o (λg a=>by obtain⟨p,hp,rfl⟩:=QaG.mp a;exact(h p hp).1.1.1) (by rw[Qaa];omega);have fl:=fY Y.r Y.o;have q:=nK (C:=C) (fs:=lD ins rows outs (ps.map Prod.fst) (ps.map Prod.snd)) (λf hf=>Z1v (by omega) Y.r Y.o f (QbF.mp hf).1) (QaC (Qbr _ _) (by rw[Qaf];omega));refine aZ ?_;show lJ C [oF (bD C ins rows outs),oF (LI (ps.map Prod.fst)),oF (LL (ps.map Prod.snd)),none,none]=_;unfold lJ;refine iG (ds:=ps.map λp=>.tup [.int p.1,LI p.2]) (eY (xs:=[LI (ps.map Prod.fst),LL (ps.map Prod.snd)]) rfl ?_) (λi env=>∃x y,env=[oF (bD C ins rows outs),oF (LI (ps.map Prod.fst)),oF (LL (ps.map Prod.snd)),x,y]) ⟨_,_,rfl⟩ ?_ ?_
 .simp only[Z0y,LI,LL,QaV];exact congrArg some (wS _ _ ps)
 .rintro i d env hd ⟨x,y,rfl⟩;obtain⟨p,hp,rfl⟩:=dW hd;obtain⟨⟨h1,_,n⟩,t⟩:=h p (QaK hp);have a:=A6 (C:=C) (rows:=rows) (outs:=outs) (ins:=ins) h1.1 t;have j:aL (jX C) [] (aC (aD 0) (aC (aD 3) aH)) [oF (bD C ins rows outs),oF (LI (ps.map Prod.fst)),oF (LL (ps.map Prod.snd)),oF (.int p.1),oF (LI p.2)]=some .non:=aJ (xs:=[bD C ins rows outs,.int p.1]) rfl a;have e:mL (fEq (fB1 bV (aC (aD 4) aH)) (fB1 bV (aC (gH C "outs" (aD 0)) aH))) [oF (bD C ins rows outs),oF (LI (ps.map Prod.fst)),oF (LL (ps.map Prod.snd)),oF (.int p.1),oF (LI p.2)]=some false:=by
   have b:∀xs,bV [LI xs]=some (.int (xs.length:Int)):=λxs=>by simp only[bV,LI,Qaa]
   rw[ev_Not,ev_Eq,cM (xs:=[LI p.2]) rfl (b _),cM (xs:=[LI outs]) (aI (zC rfl) rfl) (b _),n];show(eqN 8 (.int _) (.int _)).map _=_;rw[eqN_int];simp
  refine⟨_,[oF (bD C ins rows outs),oF (LI (ps.map Prod.fst)),oF (LL (ps.map Prod.snd)),oF (.int p.1),oF (LI p.2)],rfl,?_,_,_,rfl⟩;show aM _ _ [oF (bD C ins rows outs),oF (LI (ps.map Prod.fst)),oF (LL (ps.map Prod.snd)),oF (.int p.1),oF (LI p.2)]=_;unfold aM Z26 rIf;rw[j];dsimp only;rw[e];rfl
 .rintro env ⟨x,y,rfl⟩;exact bW (aJ (xs:=[.lst ((lD ins rows outs (ps.map Prod.fst) (ps.map Prod.snd)).map Flt.d)]) (aI (aJ (xs:=[bD C ins rows outs,LI (ps.map Prod.fst),LL (ps.map Prod.snd)]) rfl nm) rfl) q)
end
def cX(CD:Af)(c:D):D:=.obj CD ["circuit"] [c]
def Z7u(b:dF C [SS l]=some (.tup [.str "new",ls]))(f:N7 C [ls]=some c)(hp:pln c=true) :
  Y9 C CD a (cX CD c0) [SS l]=some (.str "ok",cX CD c):=by
 refine rN ?_;show Z01 C CD a [oF (.fn a [] []),oF (SS l),none] [cX CD c0]=_;unfold Z01;refine iH (aJ (xs:=[SS l]) rfl b) ?_;refine Zca (by kernel_rfl) ?_;refine vI (e:=[oF (.fn a [] []),oF (SS l),oT (.tup [.str "new",ls])]) (w1:=[cX CD c]) ?_ (Zbp rfl);refine Z5i (d:=c) (ns:=["circuit"]) (ds:=[c0]) (o:=false) ?_ (by decide) hp rfl ?_
 .unfold gPl;rw[aJ (xs:=[ls]) rfl f];rfl
 .simp[mT]
def Z7v(i:dF C [SS l]=some (.tup (.str k::xs)))(h1:(k==Str.ofString "new")=false)(j:(k==Str.ofString "lean")=false)(f:jC C [c,.tup (.str k::xs)]=some d) :
  Y9 C CD a (cX CD c) [SS l]=some (d,cX CD c):=by
 refine rN ?_;show Z01 C CD a [oF (.fn a [] []),oF (SS l),none] [cX CD c]=_;unfold Z01;refine iH (aJ (xs:=[SS l]) rfl i) ?_;show cG _ _ [oF (.fn a [] []),oF (SS l),oT (.tup (.str k::xs))] _=_;have b:fIx (aD 2) (fC (.int 0)) [oF (.fn a [] []),oF (SS l),oT (.tup (.str k::xs))]=some (.str k):=by
  rw[ev_Ix];exact atI_0 _ _
 refine gNo (by rw[ev_Eq,b,ev_C];dsimp only;rw[eqN_str,h1]) ?_;refine gNo (by rw[ev_Eq,b,ev_C];dsimp only;rw[eqN_str,j]) ?_;have e:Za5 a [oF (.fn a [] []),oF (SS l),oT (.tup (.str k::xs))] [cX CD c]=[oF (cX CD c),oF (SS l),oT (.tup (.str k::xs))]:=by
  simp[Za5,opn,SS]
 have h:gH CD "circuit" (aD 0) [oF (cX CD c),oF (SS l),oT (.tup (.str k::xs))]=some c:=by
  simp[gH,cX,QaL]
 refine xT ?_;unfold gOp;show(aL (jC C) [] (aC (gH CD "circuit" (aD 0)) (aC (aD 2) aH)) (Za5 a [oF (.fn a [] []),oF (SS l),oT (.tup (.str k::xs))] [cX CD c])).map _=_;rw[e,aJ (xs:=[c,.tup (.str k::xs)]) (aI h rfl) f];rfl
def Z1Z(h:Y9 C CD a (cX CD c) [SS l]=some (d,cX CD c'))(b:flat d=true) :
  kJ C CD a (cX CD c) [SS l]=some (d,cX CD c'):=by
 refine rN ?_;show yV C CD a [oF (.fn a [] []),oF (SS l),none,none,none,none] [cX CD c]=_;unfold yV;refine iH (d:=.non) rfl (iH (d:=.non) rfl ?_);refine vI (Z3A (xs:=[SS l]) (o:=false) rfl (by decide +kernel) rfl h) ?_;refine Zcb ?_;show rIf _ _ _ [oF (.fn a [] []),oF (SS l),oT .non,oT d,none,none]=_;refine(show bQ (bC (aD 3)) [oF (.fn a [] []),oF (SS l),oT .non,oT d,none,none]=_ from bW ?_)
 rw[ev_Flat];show(if flat d=true then some d else none)=_;rw[if_pos b]
section
variable {C CD a:Af}{ins:Nat}{rows:Ab Row}{outs:Ab Int}
def R5(h:iV C [c,x,y]=some d):jC C [c,.tup [.str "named",x,y]]=some d:=by
 refine aZ ?_;show kO C [oF c,oF (.tup [.str "named",x,y])]=_;unfold kO;refine sNo (by kernel_rfl) (sNo (by kernel_rfl) ?_);have e:fEq (fIx (aD 1) (fC (.int 0))) (fC (.str "named")) [oF c,oF (.tup [.str "named",x,y])]=some true:=by kernel_rfl
 exact tE e (lY (aJ (xs:=[c,x,y]) rfl h))
def Z0w(h:N9 C [c]=some i)(a:fW C [i]=some (.str x)):jC C [c,.tup [.str "idle"]]=some (.str x):=by
 refine aZ ?_;show kO C [oF c,oF (.tup [.str "idle"])]=_;unfold kO;refine sNo (by kernel_rfl) (sNo (by kernel_rfl) (sNo (by kernel_rfl) ?_));exact tE (by kernel_rfl) (lY (aJ (xs:=[i]) (aI (aJ (xs:=[c]) rfl h) rfl) a))
def C0(h:fF C [c]=some (.lst fs))(a:fs.length<1000):jC C [c,.tup [.str "faults"]]=some (SS (cD fs.length)):=by
 refine aZ ?_;show kO C [oF c,oF (.tup [.str "faults"])]=_;unfold kO;refine sNo (by kernel_rfl) (sNo (by kernel_rfl) (sNo (by kernel_rfl) ?_));refine sNo (by kernel_rfl) (bW ?_);exact cM (xs:=[.int (fs.length:Int)]) (aI (cM (xs:=[.lst fs]) (aI (aJ (xs:=[c]) rfl h) rfl) rfl) rfl) (Z08 (by omega) (by omega))
def Z9w(e:dF C [SS l]=some (.tup (.str k::xs)))(h1:(k==Str.ofString "new")=false)(f:(k==Str.ofString "lean")=false)(b:jC C [c,.tup (.str k::xs)]=some (.str x)) :
  kJ C CD a (cX CD c) [SS l]=some (.str x,cX CD c):=Z1Z (Z7v e h1 f b) rfl
theorem Z99:∀(ws:Ab Str) (z:Ae Nat),(ws.foldl (λacc p=>acc++(mkS []).cps++p.cps) z).toList=z.toList++ws.flatMap λs=>s.cps.toList
 |[],z=>by simp
 |w::ws,z=>by rw[Qbs,Z99 ws];simp[mkS]
def Z6e(j:∀b∈bs,Bt b)(l:bs.length<=16){env:En}{fa:En->Aa D}(e:fa env=some (.lst (bs.map λb=>SS (cD b.toNat)))):iI (fC (.str "")) fa env=some (SS (iD bs)):=by
 have a:bs.map (λb=>SS (cD b.toNat))=(bs.map λb=>[48+b.toNat]).map SS:=by
  rw[QaV];exact Qbh λb h=>by rw[gQ (by rcases j b h with rfl|rfl<;>decide)];rfl
 have i:Txt.join (mkS []) ((bs.map λb=>[48+b.toNat]).map mkS)=mkS (iD bs):=by
  apply pF;rw[cU];cases bs with
  |nil=>rfl
  |cons b bs =>
   show((((bs.map λb=>[48+b.toNat]).map mkS)).foldl (λacc p=>acc++(mkS []).cps++p.cps) (mkS [48+b.toNat]).cps).toList=_;rw[Z99,cU];simp[iD,List.flatMap_map,cU];exact List.map_eq_flatMap.symm
 have f:(((bs.map λb=>[48+b.toNat]).map mkS).map (·.length)).sum+((bs.map λb=>[48+b.toNat]).map mkS).length*(mkS []).length<=1000000:=by
  have:((bs.map λb=>[48+b.toNat]).map mkS).map (·.length)=bs.map λ_=>1:=by
   rw[QaV,QaV];exact Qbh λb _=>jW _
  rw[this,jW,List.map_const',List.sum_replicate_nat,Qa8];omega
 unfold iI;rw[e,a];simp only[fC];rw[K4];simp only[xA,f,Rm,i];rfl
def Z8m(r:0<m)(j:m<=16)(e:0<ps.length)(n:ps.length<=4)(h:∀p∈ps,Pr m p):tO C [LI (ps.map Prod.fst),LL (ps.map Prod.snd)]=some (SS (jn (kNamed::prW ps))):=by
 obtain⟨w1,w2,_⟩:=U3 (C:=C) r j e n h;refine aZ ?_;show uD C [oF (LI (ps.map Prod.fst)),oF (LL (ps.map Prod.snd)),none,none]=_;unfold uD;refine gO (d:=.lst [SS kNamed]) (by rw[ev_Lst,aI (d:=SS kNamed) (by rw[ev_C,Z8V];rfl) rfl];rfl) ?_;have o:bV [LI (ps.map Prod.fst)]=some (.int (ps.length:Int)):=by simp only[bV,LI,Qaa]
 refine iG (ds:=(List.range ps.length).map λ(k:Nat)=>.int (k:Int)) (eY (xs:=[.int (ps.length:Int)]) (aI (cM (xs:=[LI (ps.map Prod.fst)]) rfl o) rfl) (xO (by omega)))
  (λi env=>∃x,env=[oF (LI (ps.map Prod.fst)),oF (LL (ps.map Prod.snd)),oT (.lst ((kNamed::prW (ps.take i)).map SS)),x]) ⟨_,rfl⟩ ?_ ?_
 .rintro i d env hd ⟨x,rfl⟩;obtain⟨hi,rfl⟩:=fJ hd;have hp:=Qaj hi;generalize ps[i]=p at hp;obtain⟨h1,a,t⟩:=h p (QaK hp);have q:prW (ps.take (i+1))=prW (ps.take i)++[cD p.1.toNat,iD p.2]:=by
   unfold prW;rw[Qbm,hp,List.flatMap_append];simp
  refine⟨[oF (LI (ps.map Prod.fst)),oF (LL (ps.map Prod.snd)),oT (.lst ((kNamed::prW (ps.take i)).map SS)),oF (.int (i:Int))],_,rfl,mR (xs:=(kNamed::prW (ps.take i)).map SS) (ys:=[SS (cD p.1.toNat),SS (iD p.2)]) rfl ?_ (kP _) ?_,oF (.int (i:Int)),?_⟩
  .have l:fIx (aD 0) (aD 3) [oF (LI (ps.map Prod.fst)),oF (LL (ps.map Prod.snd)),oT (.lst ((kNamed::prW (ps.take i)).map SS)),oF (.int (i:Int))]=some (.int p.1):=(show atI ((ps.map Prod.fst).map D.int) (i:Int)=_ from gM (by simp[hp]))
   have f:fIx (aD 1) (aD 3) [oF (LI (ps.map Prod.fst)),oF (LL (ps.map Prod.snd)),oT (.lst ((kNamed::prW (ps.take i)).map SS)),oF (.int (i:Int))]=some (LI p.2):=(show atI ((ps.map Prod.snd).map LI) (i:Int)=_ from gM (by simp[hp]))
   rw[ev_Lst,aI (cM (aI l rfl) (Z08 h1.1 h1.2)) (aI (Z6e a (by omega) (bI D.int (λb=>SS (cD b.toNat)) (xs:=p.2) (dS f) (by omega) λb hb=>cM (xs:=[.int b]) rfl (Z08 (by rcases a b hb with rfl|rfl<;>decide) (by rcases a b hb with rfl|rfl<;>decide)))) rfl)];rfl
  .rw[Qaa,Qaf,wK,Qat];simp;omega
  .rw[q];simp
 .rintro env ⟨x,rfl⟩;rw[Qaa,QaU,QaD];exact bW (wP w1 w2 rfl)
def A5(Y:Dr ins rows outs){ps:Ab (Int×Ab Int)}(e:0<ps.length)(j:ps.length<=4)(h:∀p∈ps,Pr outs.length p/\p.1<((2^ins:Nat):Int)) :
  gK C CD a (cX CD (bD C ins rows outs)) [.lst ((Flt.none::bT ins rows outs).map (eR ins rows outs)),LI (ps.map Prod.fst),LL (ps.map Prod.snd)]=some (.bl true,cX CD (bD C ins rows outs)):=by
 have A:=Y.i;have F:=Y.l;have u:=Y.o2;have E:2^ins<=32:=QaC (Qa6 (by decide) A) (by decide);have fl:=fY Y.r Y.o;have q:∀p∈ps,Pr outs.length p:=λp hp=>(h p hp).1;obtain⟨_,_,ta⟩:=U3 (C:=C) Y.o1 u e j q;have w:=Z8m (C:=C) Y.o1 u e j q;have ns:=yI (C:=C) Y j h;have v:=Z2w (C:=C) (fs:=lD ins rows outs (ps.map Prod.fst) (ps.map Prod.snd)) (λf hf=>Z1v (by omega) Y.r Y.o f (QbF.mp hf).1) (QaC (Qbr _ _) (by rw[Qaf];omega));obtain⟨x,B⟩:=xJ (lD ins rows outs (ps.map Prod.fst) (ps.map Prod.snd));have an:=λT=>E9 (C:=C) (T:=T) (outs:=outs) (tests:=ps.map Prod.fst) (by omega) (λg hg=>by obtain⟨p,hp,rfl⟩:=QaG.mp hg;have:=(h p hp).2;exact⟨(q p hp).1.1,by omega⟩) (by rw[Qaa];omega);rw[B]at ns v;have t:(Flt.none::bT ins rows outs).length<=1000:=by rw[Qaf];omega
 have y:=Z9w (CD:=CD) (a:=a) (c:=bD C ins rows outs) ta (by decide +kernel) (by decide +kernel) (R5 ns);refine rN ?_;show jK C CD a [oF (.fn a [] []),oF (.lst ((Flt.none::bT ins rows outs).map (eR ins rows outs))),oF (LI (ps.map Prod.fst)),oF (LL (ps.map Prod.snd)),none] _=_;unfold jK;refine iH (d:=.lst ((lD ins rows outs (ps.map Prod.fst) (ps.map Prod.snd)).map Flt.d)) ?_ ?_
 .unfold lD;refine jZ (eR ins rows outs) Flt.d (λf=>decide ((ps.map Prod.fst).map (iJ (aS ins rows f) outs)=ps.map Prod.snd)) (by rfl) t ?_ ?_
  .intro f _;unfold eR;rw[sX,ev_Eq,aJ (xs:=[LI (outs.map (nth (aS ins rows f))),LI (ps.map Prod.fst)]) rfl (an _)];exact Z6D (n:=5)
  .intro f _ _;have:=mJ f;unfold eR;rw[sX];simp only[ev_Flat,ev_var,Qaz,QaN,Qav,this,Rm]
 refine xT ?_;unfold gBl;rw[P7 (b:=true) (lA (ds:=[SS (jn (kNamed::prW ps))]) (aI rfl (aI (aJ (xs:=[LI (ps.map Prod.fst),LL (ps.map Prod.snd)]) rfl w) rfl)) y) (aJ (xs:=[.lst ((lD ins rows outs (ps.map Prod.fst) (ps.map Prod.snd)).map Flt.d)]) rfl v) (by rw[eqN_str,beq_self_eq_true])];rfl
end
theorem Z1(hi:ins<=8)(hr:RowsOk ins rows)(hl:rows.length<=10)(ho:Ho ins rows outs)(h2:outs.length<=16):lH C [aX ins rows outs]=some (.lst ((kNew::tK ins rows outs).map SS)):=by
 have hm:=mQ hr (by omega);have strW:∀{ns:Ab Int}{src:En->Aa (Ab D)}{env:En},src env=some (ns.map D.int)->(∀n∈ns,0<=n/\n<100)->ns.length<=100->bL [] src fTT (fB1 sT (aC (aD 0) aH)) env=some (.lst ((bZ ns).map SS)):=λ{ns src env} hs hn hl=>by
  rw[bI D.int (λn=>SS (cD n.toNat)) (xs:=ns) hs (by omega) (λn hn'=>cM (xs:=[.int n]) rfl (Z1u (hn n hn').1 (by have:=(hn n hn').2;omega)))];unfold bZ;rw[QaV];rfl
 refine aZ ?_;show lL C [oF (aX ins rows outs),none,none]=_;unfold lL;refine gO (d:=.lst ([kNew,kIns,cD ins].map SS)) ?_ ?_
 .have e1:fB1 sT (aC (fIx (aD 0) (fC (.int 0))) aH) [oF (aX ins rows outs),none,none]=some (SS (cD ins)):=cM (xs:=[.int (ins:Int)]) rfl (Z1u (n:=(ins:Int)) (by omega) (by omega));rw[ev_Lst,aI (d:=SS kNew) (by rw[ev_C,Z4Z];rfl) (aI (d:=SS kIns) (by rw[ev_C,ZaQ];rfl) (aI e1 rfl))];rfl
 have catS:∀{xs ys:Ab (Ab Nat)}{fa fb:En->Aa D}{env:En},fa env=some (.lst (xs.map SS))->fb env=some (.lst (ys.map SS))->xs.length+ys.length<=1000->G1 fa fb env=some (.lst ((xs++ys).map SS)):=λ{xs ys fa fb env} a b h=>by
  rw[ev_CatF,a,b];show(if (flats (xs.map SS)=true/\flats (ys.map SS)=true)/\(xs.map SS).length+(ys.map SS).length<=1000 then some (D.lst (xs.map SS++ys.map SS)) else none)=_;rw[if_pos ⟨⟨kP _,kP _⟩,by rw[Qaa,Qaa];exact h⟩,Qaw]
 have catS2:∀{xs ys:Ab (Ab Nat)}{fa fb:En->Aa D}{env:En},fa env=some (.lst (xs.map SS))->fb env=some (.lst (ys.map SS))->xs.length+ys.length<=1000->Q0 fa fb env=some (.lst ((xs++ys).map SS)):=λ{xs ys fa fb env} a b h=>by
  rw[ev_cat,a,b];show(if (xs.map SS).length+(ys.map SS).length<=1000 then some (D.lst (xs.map SS++ys.map SS)) else none)=_;rw[if_pos (by rw[Qaa,Qaa];exact h),Qaw]
 refine iG (ds:=rows.map Row.d) rfl (λi env=>∃x,env=[oF (aX ins rows outs),oT (.lst ((kNew::kIns::cD ins::((rows.take i).flatMap λr=>[47]::fH r)).map SS)),x]) ⟨none,rfl⟩ ?_ ?_
 .rintro i d env hd ⟨x,rfl⟩;obtain⟨r,hr1,rfl⟩:=dW hd;have hlt:i<rows.length:=(Qae.mp hr1).1;have hmem:=QaK hr1;have k5:=K9 (hr i r hr1) (by omega);have k4:=(K8 r).2.2.2;have hfl:=iY (rows:=rows.take i) λq hq=>(hm q (Qbx hq)).2.2;have htl:(rows.take i).length<=10:=by rw[Qat];omega
  refine⟨_,[oF (aX ins rows outs),oT (.lst ((kNew::kIns::cD ins::((rows.take (i+1)).flatMap λr=>[47]::fH r)).map SS)),oF r.d],rfl,?_,oF r.d,rfl⟩;show bJ 1 _ [oF (aX ins rows outs),oT (.lst ((kNew::kIns::cD ins::((rows.take i).flatMap λr=>[47]::fH r)).map SS)),oF r.d]=_;have e1:bL [] (cR (aD 2)) fTT (fB1 sT (aC (aD 0) aH)) [oF (aX ins rows outs),oT (.lst ((kNew::kIns::cD ins::((rows.take i).flatMap λr=>[47]::fH r)).map SS)),oF r.d]=some (.lst ((fH r).map SS)):=by
   let φ:Sum (Ab Nat) Int->D:=λp=>match p with | .inl l=>SS l | .inr n=>.int n
   let ψ:Sum (Ab Nat) Int->D:=λp=>match p with | .inl l=>SS l | .inr n=>SS (cD n.toNat)
   rw[bI φ ψ (xs:=.inl (pZ r).1::(pZ r).2.map Sum.inr) (by
    rw[ev_seq];show(match some r.d with|some (.lst ds)=>some ds|some (.tup ds)=>some ds|_=>none)=_
    rw[Z59];simp[φ,Function.comp_def]) (by simp only[Qaf,Qaa];omega) (λp hp=>?_)]
   .unfold fH bZ;simp[ψ,Function.comp_def]
   .rcases Qad.mp hp with rfl|z
    .exact cM (xs:=[SS (pZ r).1]) rfl rfl
    .obtain⟨n,hn,rfl⟩:=QaG.mp z;exact cM (xs:=[.int n]) rfl (Z1u (k5 n hn).1 (by have:=(k5 n hn).2;omega))
  unfold bJ;rw[catS2 (catS (ys:=[[47]]) rfl (by rw[ev_Lst,aI (d:=SS [47]) (by rw[ev_C,J8];rfl) rfl];rfl) (by simp only[Qaf,Qa8];omega)) e1 (by have:=(hm r hmem).2.2;simp only[Qam,Qaf,Qa8];omega)];rw[Qbm,hr1,List.flatMap_append];simp
 .rintro env ⟨x,rfl⟩;rw[Qaa,QaD];have hfl:=iY (rows:=rows) λq hq=>(hm q hq).2.2;have hol:(bZ outs).length=outs.length:=by unfold bZ;rw[Qaa]
  refine bW ?_;rw[catS2 (catS (ys:=[[47],kOuts]) rfl (by rw[ev_Lst,aI (d:=SS [47]) (by rw[ev_C,J8];rfl) (aI (d:=SS kOuts) (by rw[ev_C,Z4Y];rfl) rfl)];rfl) (by simp only[Qaf,Qa8];omega)) (strW (ns:=outs) rfl (λn hn=>by have:=ho n hn;omega) (by omega)) (by rw[hol];simp only[Qam,Qaf,Qa8];omega)];unfold tK;simp
def Z6J:yO C CD []=some (cX CD (bD C 0 [.fix 0] [0])):=by
 have a:=Z2u (C:=C) (ins:=0) (rows:=[.fix 0]) (outs:=[0]) (by decide);have e:fB1 (iP C) (aC (kI 0) (aC (dN (aC (gU (aC (kS "fix") (aC (kI 0) aH))) aH)) (aC (dN (aC (kI 0) aH)) aH))) [none]=some (bD C 0 [.fix 0] [0]):=cM (xs:=[.int 0,.lst ([Row.fix 0].map Row.d),LI [0]]) rfl a;unfold yO;simp only;rw[e];rfl
theorem X7:∀(ns:Ab Int),pln.plns (ns.map D.int)=true
 |[]=>rfl
 |n::ns=>by show(pln (.int n)&&pln.plns (ns.map D.int))=true;rw[X7 ns];rfl
theorem X6:∀(rows:Ab Row),pln.plns (rows.map Row.d)=true
 |[]=>rfl
 |r::rows=>by
  show(pln r.d&&pln.plns (rows.map Row.d))=true;rw[X6 rows];cases r<;>rfl
def Z5H:pln (bD C ins rows outs)=true:=by
 show(pln (.int ins)&&(pln.plns (rows.map Row.d)&&(pln.plns (outs.map D.int)&&true)))=true;rw[X6,X7];rfl
def Z1A(x:Str):eqN 8 (.str x) (.str x)=some true:=by rw[eqN_str,beq_self_eq_true]
def Sh(n m:Nat)(t:Ab (Ab Int)):Prop:=t.length=n/\∀xs∈t,(∀b∈xs,Bt b)/\xs.length=m
def Y3(a:∀i∈ns,Builtin.Int.intBits i<=1048576)(b:0<=k):Builtin.Int.intBits (nth ns k)<=1048600:=by
 by_cases h:k<(ns.length:Int)
 .exact QaC (a _ (N4 b h)) (by decide)
 .rw[Z2r (by omega)];decide
section
variable {ins:Nat}{rows:Ab Row}{outs:Ab Int}
def Z4V(Y:Dr ins rows outs){env:En}(h:aD 3 env=some (.lst ((Flt.none::bT ins rows outs).map (eR ins rows outs)))) :
  bL [3] (cR (aD 3)) (un2 (nE (lO true (aD 0)) (fEq (aD 1) (fIx (fIx (aD 2) (fC (.int 0))) (fC (.int 1)))))) (un2 (bC (aD 0))) env=some (.lst ((rW ins rows outs).map Flt.d)):=by
 have B:=Y.i;have A:=Y.l;have fl:=fY Y.r Y.o
 let p:Flt->Bool:=λf=>match f with
  | .none=>false
  |f=>decide (outs.map (nth (aS ins rows f))=outs.map (nth (aS ins rows .none)))
 have e:rW ins rows outs=(Flt.none::bT ins rows outs).filter p:=by
  rw[List.filter_cons_of_neg (by simp[p])];refine List.filter_congr λf hf=>?_;obtain⟨h1,a⟩:=qW Y.r f hf;have t:=Z0K (nR Y.r .no) (nR Y.r h1) outs;have:p f=decide (outs.map (nth (aS ins rows f))=outs.map (nth (aS ins rows .none))):=by cases f<;>first|rfl|exact absurd rfl a
  rw[this];exact decide_eq_decide.mpr t
 rw[e];have u:(env[3]?).join=some (false,.lst ((Flt.none::bT ins rows outs).map (eR ins rows outs)))\/(env[3]?).join=some (true,.lst ((Flt.none::bT ins rows outs).map (eR ins rows outs))):=by
  rw[ev_var]at h;obtain⟨⟨o,d⟩,h1,a⟩:=Option.map_eq_some_iff.mp h;cases a;cases o<;>simp[h1]
 have j:∀(f:Flt) (o:Bool),un2 (nE (lO true (aD 0)) (fEq (aD 1) (fIx (fIx (aD 2) (fC (.int 0))) (fC (.int 1))))) [oF (eR ins rows outs f),some (o,.lst ((Flt.none::bT ins rows outs).map (eR ins rows outs)))]=some (p f):=λf o=>by
  have z:∀x y,fIx (fIx (aD 2) (fC (.int 0))) (fC (.int 1)) [x,y,some (o,.lst ((Flt.none::bT ins rows outs).map (eR ins rows outs)))]=some (LI (outs.map (nth (aS ins rows .none)))):=λx y=>by
   have v:fIx (aD 2) (fC (.int 0)) [x,y,some (o,.lst ((Flt.none::bT ins rows outs).map (eR ins rows outs)))]=some (eR ins rows outs .none):=atI_0 _ _;rw[ev_Ix,v];rfl
  have q:∀x,fEq (aD 1) (fIx (fIx (aD 2) (fC (.int 0))) (fC (.int 1))) [x,oF (LI (outs.map (nth (aS ins rows f)))),some (o,.lst ((Flt.none::bT ins rows outs).map (eR ins rows outs)))]=some (decide (outs.map (nth (aS ins rows f))=outs.map (nth (aS ins rows .none)))):=λx=>by
   rw[ev_Eq,z];exact Z2N (n:=6)
  show un2 _ [oF (.tup [f.d,LI (outs.map (nth (aS ins rows f)))]),_]=_;rw[sX,ev_And];cases f with
  |none=>rfl
  |wire w b=>exact q _
  |leg w l b=>exact q _
 refine jZ (eR ins rows outs) Flt.d p (dS h) (by rw[Qaf];omega) (λf _=>?_) λf _ _=>?_
 .show un2 _ [oF (eR ins rows outs f),(env[3]?).join]=_;rcases u with z|z<;>rw[z]<;>exact j f _
 .have:=mJ f;unfold eR;rw[sX];simp only[ev_Flat,ev_var,Qaz,QaN,Qav,this,Rm]
def ZbI{n m:Nat}{tests:Ab Int}{t:Ab (Ab Int)}(a:tests.length=n)(h:Sh n m t):(tests.zip t).map Prod.fst=tests/\(tests.zip t).map Prod.snd=t/\(tests.zip t).length=n:=by
 have:=h.1;exact⟨List.map_fst_zip (by omega),List.map_snd_zip (by omega),by rw[List.length_zip];omega⟩
def Sh.ans{tests T:Ab Int}:Sh tests.length outs.length (tests.map (iJ T outs)):=by
 refine⟨Qaa _,λxs hx=>?_⟩;obtain⟨g,_,rfl⟩:=QaG.mp hx;refine⟨λb hb=>?_,by simp[iJ]⟩;obtain⟨y,_,rfl⟩:=QaG.mp hb;exact Int.emod_two_eq _
def Sh.cut(h1:Sh n m s)(a:Sh n m t)(hc:c<=n):Sh n m (s.take c++t.drop c):=by
 have:=h1.1;have:=a.1;refine⟨by rw[Qam,Qat,QbA];omega,λxs hx=>?_⟩;rcases Qai.mp hx with z|z
 .exact h1.2 xs (Qbx z)
 .exact a.2 xs (List.mem_of_mem_drop z)
def Sh.bend(h:Sh n m t)(i:t[j]?=some xs)(e:Bt b):Sh n m (t.set j (xs.set k b)):=by
 refine⟨by rw[List.length_set];exact h.1,λys hy=>?_⟩;obtain⟨f,a⟩:=h.2 xs (QaK i);rcases Qbz hy with z|rfl
 .exact h.2 ys z
 .refine⟨λc hc=>?_,by rw[List.length_set];exact a⟩;rcases Qbz hc with z|rfl
  .exact f c z
  .exact e
end
def Z6u{ta tb:En->Ab D->Aa (Bool×Ab D)}{env:En}{ws w1 w2:Ab D}(h1:ta env ws=some (false,w1))(a:tb env w1=some (false,w2)):gOr ta tb env ws=some (false,w2):=by unfold gOr;rw[h1];exact a
def Z5h(e:f env=some d)(b:fk env=some (.int kk))(a:fl env=some (.int ll))(l:env[i]?=some (some (true,.lst ds)))(q:ixN ds.length kk=some j)(p:ds[j]?=some (.lst es))(o:ixN es.length ll=some n)(h:flats es=true)(r:flat d=true):D9 i fk fl f env=.next (env.set i (some (true,.lst (ds.set j (.lst (es.set n d)))))):=by
 unfold D9;simp only[e,b,a,l,q,p,o,h,r,and_self,Rm]
def O4{C CD a:Af}{ins:Nat}{rows:Ab Row}{outs ns:Ab Int}{c0:D}(Y:Dr ins rows outs)(hb:∀i∈ns,Builtin.Int.intBits i<=1048576) :
  mF C CD a (cX CD c0) [aX ins rows outs,LI ns]=some (.bl true,cX CD (bD C ins rows outs)):=by
 have yi:=Y.i;have yl:=Y.l;have yo:=Y.o2;have pb:2^ins<=32:=QaC (Qa6 (by decide) yi) (by decide);have pp:0<2^ins:=Qbp ins;have fl:=fY Y.r Y.o;have fo:=Z2K (outs:=outs) Y.r;obtain⟨H,S⟩:∃H,Flt.none::bT ins rows outs=H:=⟨_,rfl⟩;have hFl:H.length=(bT ins rows outs).length+1:=by rw[<- S,Qaf]
 rw[S]at fo;refine rN ?_
 let S0:Slot:=some (false,.fn a [] [])
 let S1:Slot:=some (false,aX ins rows outs)
 let u:Slot:=some (false,LI ns)
 let F:Slot:=some (true,.lst (H.map (eR ins rows outs)))
 let G:Slot:=some (true,.lst ((rW ins rows outs).map Flt.d))
 show uF C CD a [S0,S1,u,none,none,none,none,none,none,none,none,none,none,none,none,none] [cX CD c0]=_;unfold uF;refine iH (d:=.lst (H.map (eR ins rows outs))) ?_ ?_
 .have lf:=Z6a (C:=C) (ins:=ins) (rows:=rows) (outs:=outs) (by omega) (by omega) Y.r Y.o;refine bI Flt.d (eR ins rows outs) (dS ?_) (by omega) (λf hf=>?_)
  .rw[ev_cat,aJ (xs:=[aX ins rows outs]) rfl lf];show(if [D.non].length+((bT ins rows outs).map Flt.d).length<=1000 then some (D.lst ([D.non]++(bT ins rows outs).map Flt.d)) else none)=_;rw[if_pos (by rw[Qaa,QaX];omega),<- S];rfl
  .have g2:bC (aD 0) [oF f.d,S1]=some f.d:=by simp only[ev_Flat,ev_var,Qaz,QaN,Qav,mJ f,Rm]
   show gU _ [oF f.d,S1]=_;rw[ev_Tup,aI g2 (aI (aJ (xs:=[aX ins rows outs,f.d]) rfl (O2 (by omega) (by omega) Y.r (fo f hf) (by omega) Y.o)) rfl)];rfl
 refine iH (Z4V Y (by rw[S];rfl)) ?_;show cG _ _ [S0,S1,u,F,G,none,none,none,none,none,none,none,none,none,none,none] _=_;have hm:=mQ Y.r (by omega);have nw:=Z8g (outs:=outs) (by omega) Y.r (by omega) Y.o;have nl:=Z5X (ins:=ins) (outs:=outs) (λr hr'=>(hm r hr').2.2) (by omega) yo;have hwo:∀w∈kNew::tK ins rows outs,Wo 4 w:=λw hw=>by
  rcases Qad.mp hw with rfl|z
  .exact⟨by decide,by decide,by decide⟩
  .exact nw w z
 have hll:(kNew::tK ins rows outs).length*(4+1)<=400:=by rw[Qaf];omega
 have sn:=Z1Z (Z7u (C:=C) (CD:=CD) (a:=a) (c0:=c0) (Z9p (by unfold tK;simp) hwo hll) (Z5d (by omega) Y.r yl Y.o Y.o1 yo) Z5H) rfl;refine vI (e:=[S0,S1,u,F,G,none,none,none,none,none,none,none,none,none,none,none]) (w1:=[cX CD (bD C ins rows outs)]) (L4 (w1:=[cX CD (bD C ins rows outs)]) ?_ rfl) ?_
 .rw[P7 (b:=true) (lA (ds:=[SS (jn (kNew::tK ins rows outs))]) (aI rfl (aI (wP hwo hll (aJ (xs:=[aX ins rows outs]) rfl (Z1 (C:=C) (outs:=outs) (by omega) Y.r yl Y.o yo))) rfl)) sn) (y:=.str "ok") rfl (Z1A _)];rfl
 refine vI (e:=[S0,S1,u,F,G,none,none,none,none,none,none,none,none,none,none,none]) (w1:=[cX CD (bD C ins rows outs)]) (L4 (w1:=[cX CD (bD C ins rows outs)]) (Z6u (w1:=[cX CD (bD C ins rows outs)]) ?_ ?_) rfl) ?_
 .have af:=lP (C:=C) (ins:=ins) (rows:=rows) (outs:=outs) (by omega) (by omega) Y.r Y.o;have sf:=Z9w (CD:=CD) (a:=a) (c:=bD C ins rows outs) (Z38 (C:=C)) (by decide +kernel) (by decide +kernel) (C0 af (by rw[Qaa];omega));have el:bV [.lst (H.map (eR ins rows outs))]=some (.int ((bT ins rows outs).length+1:Nat)):=by simp only[bV,Qaa,hFl]
  have e:fB1 wC (aC (fI0 (λi j=>.int (i-j)) (fB1 bV (aC (aD 3) aH)) (fC (.int 1))) aH) [S0,S1,u,F,G,none,none,none,none,none,none,none,none,none,none,none]=some (SS (cD ((bT ins rows outs).map Flt.d).length)):=by
   refine cM (xs:=[.int ((bT ins rows outs).length:Int)]) (aI ?_ rfl) (by rw[Z08 (by omega) (by omega),Qaa];rfl);rw[ev_I0',cM (xs:=[.lst (H.map (eR ins rows outs))]) rfl el,ev_C];simp
  rw[P7 (b:=true) (lA (ds:=[SS Z2y]) (aI rfl (aI (by kernel_rfl) rfl)) sf) e (Z1A _)];rfl
 .have il:(rW ins rows outs).length<=500:=QaC (Qbr _ _) (by omega);have fn:∀f∈rW ins rows outs,FN f:=λf hf=>Z1v (by omega) Y.r Y.o f (Qab _ (QbF.mp hf).1);obtain⟨x,U⟩:=xJ (rW ins rows outs);have s1:=nK (C:=C) fn il;have s2:=Z2w (C:=C) fn il;rw[U]at s1 s2;have si:=Z9w (CD:=CD) (a:=a) (c:=bD C ins rows outs) (Z7j (C:=C)) (by decide +kernel) (by decide +kernel) (Z0w (Z8s (by omega) (by omega) Y.r (by omega) Y.o) s1);rw[P7 (b:=true) (lA (ds:=[SS Z97]) (aI rfl (aI (by kernel_rfl) rfl)) si) (aJ (xs:=[.lst ((rW ins rows outs).map Flt.d)]) rfl s2) (Z1A _)];rfl
 have at2:=Z6b (C:=C) (ns:=ns) (k:=2) (by decide);obtain⟨q,hM⟩:∃k:Nat,nth ns 2%4+1=(k:Int):=⟨(nth ns 2%4+1).toNat,by omega⟩;have hm0:0<q:=by omega
 have hm4:q<=4:=by omega
 have q4:(0:Int)<4:=by decide
 refine iH (d:=.int (q:Int)) ?_ ?_
 .rw[ev_I0',ev_C,nL (C:=λ_ j=>0<j) (aJ (xs:=[LI ns,.int 2]) rfl at2) (ev_C (d:=.int 4)) q4];show some (D.int (1+nth ns 2%4))=_;rw[<- hM,Int.add_comm]
 let I:Slot:=some (true,.int (q:Int))
 obtain⟨tests,et,Z,ht⟩:=Z4e (fr:=[2,1]) (src:=sB1 fR (aC (aD 5) aH)) (fe:=fI2 (λ_ j=>0<j) (λi j=>.int (i%j)) (aL (gA C) [] (aC (aL (jH C) [] (aC (aD 1) (aC (aD 0) aH))) (aC (fI0 (λi j=>.int (i+j)) (aD 0) (fC (.int 3))) aH))) (fI2 lQ (λi j=>.int (i*2^j.toNat)) (fC (.int 1)) (fIx (aD 2) (fC (.int 0)))))
  (env:=[S0,S1,u,F,G,I,none,none,none,none,none,none,none,none,none,none]) (fun (k:Nat)=>.int (k:Int)) (fun v=>0 <= v /\ v < ((2 ^ ins:Nat):Int)) (xs:=List.range q) (eY (xs:=[.int (q:Int)]) rfl (xO (by omega))) (by rw [QaU];omega) (fun k hk=>by
   have ta:=Z6b (C:=C) (ns:=ns) (k:=(k:Int)) (by omega);have hk:=Qbn.mp hk;obtain⟨m,m0,m1,em⟩:=O3 (C:=C) (c:=nth ns (k:Int)) (k:=(k:Int)+3) (Y3 hb (by omega)) (by omega) (by omega);have q1:(0:Int)<((2^ins:Nat):Int):=by omega
   refine⟨m%((2^ins:Nat):Int),?_,QaB _ (by omega),Qas _ q1⟩;have a1:aL (gA C) [] (aC (aL (jH C) [] (aC (aD 1) (aC (aD 0) aH))) (aC (fI0 (λi j=>.int (i+j)) (aD 0) (fC (.int 3))) aH)) [oF (.int (k:Int)),u,S1]=some (.int m):=aJ (xs:=[.int (nth ns (k:Int)),.int ((k:Int)+3)]) (aI (aJ (xs:=[LI ns,.int (k:Int)]) rfl ta) rfl) em;have a2:fI2 lQ (λi j=>.int (i*2^j.toNat)) (fC (.int 1)) (fIx (aD 2) (fC (.int 0))) [oF (.int (k:Int)),u,S1]=some (.int ((2^ins:Nat):Int)):=by
    have a3:fIx (aD 2) (fC (.int 0)) [oF (.int (k:Int)),u,S1]=some (.int (ins:Int)):=rfl;rw[nL (C:=lQ) (ev_C (d:=.int 1)) a3 (nM (by omega) (by omega)),Qbt,QaO];simp
   exact nL (C:=λ_ j=>0<j) a1 a2 q1)
 rw[QaU]at Z;refine iH et ?_
 let J:Slot:=some (true,LI tests)
 have LN:∀T,fV C [LI (outs.map (nth T)),LI tests]=some (LL (tests.map (iJ T outs))):=λT=>E9 (by omega) (λg hg=>⟨(ht g hg).1,by have:=(ht g hg).2;omega⟩) (by omega);have SA:∀T,Sh q outs.length (tests.map (iJ T outs)):=λT=>Z ▸ Sh.ans;have NR:∀t,Sh q outs.length t->gK C CD a (cX CD (bD C ins rows outs)) [.lst (H.map (eR ins rows outs)),LI tests,LL t]=some (.bl true,cX CD (bD C ins rows outs)):=λt h=>by
  obtain⟨z1,z2,z3⟩:=ZbI Z h;have:=A5 (C:=C) (CD:=CD) (a:=a) Y (ps:=tests.zip t) (by omega) (by omega) λp hp=>by
   obtain⟨q1,q2⟩:=List.of_mem_zip hp;have:=ht _ q1;exact⟨⟨⟨this.1,by omega⟩,h.2 _ q2⟩,this.2⟩
  rw[z1,z2,S]at this;exact this
 have hFp:0<H.length:=by omega
 have a4:∀{E:En}{fi:En->Aa D}(j:Nat),j<H.length->aD 3 E=some (.lst (H.map (eR ins rows outs)))->aD 6 E=some (LI tests)->fi E=some (.int (j:Int))->∃f,aL (fV C) [] (aC (fIx (fIx (aD 3) fi) (fC (.int 1))) (aC (aD 6) aH)) E=some (LL (tests.map (iJ (aS ins rows f) outs))):=λ{E fi} j hj e3 e6 ei=>by
  refine⟨H[j],aJ (xs:=[LI (outs.map (nth (aS ins rows H[j]))),LI tests]) (aI ?_ (aI e6 rfl)) (LN _)⟩;have z1:fIx (aD 3) fi E=some (eR ins rows outs H[j]):=by rw[ev_Ix,e3,ei];exact gM (by simp[Qaj hj])
  rw[ev_Ix,z1];rfl
 obtain⟨f0,e7⟩:=a4 (E:=[S0,S1,u,F,G,I,J,none,none,none,none,none,none,none,none,none]) (fi:=fC (.int 0)) 0 hFp rfl rfl rfl;refine iH e7 ?_;refine W9 (ds:=(List.range 2).map λ(k:Nat)=>.int (k:Int)) (eY (xs:=[.int 2]) rfl (Z3y (n:=2) rfl (by decide)))
  (λi env=>∃told o b0 b1 b2 b3 b4 b5 b6 b7,Sh q outs.length told/\env=[S0,S1,u,F,G,I,J,some (o,LL told),b0,b1,b2,b3,b4,b5,b6,b7]) ⟨_,true,none,none,none,none,none,none,none,none,SA _,rfl⟩ ?_ λenv ⟨told,o,b0,b1,b2,b3,b4,b5,b6,b7,_,e⟩=>by subst e;exact Zbp rfl
 rintro i d env hd ⟨told,o,b0,b1,b2,b3,b4,b5,b6,b7,htold,rfl⟩;obtain⟨hi,rfl⟩:=fJ hd;obtain⟨n,n0,n1,en⟩:=O3 (C:=C) (c:=nth ns (3+(i:Int))) (k:=(i:Int)+20) (Y3 hb (by omega)) (by omega) (by omega)
 let P:Slot:=some (o,LL told)
 let K:Slot:=some (false,.int (i:Int))
 let L:Slot:=some (true,.int n)
 have z1:=Qas n (show 0<(H.length:Int) by omega);have z0:=QaB n (show(H.length:Int)≠0 by omega);obtain⟨j,hj,ej⟩:∃j:Nat,j<H.length/\fIx (dN (aC (fI2 (λ_ j=>0<j) (λi j=>.int (i%j)) (aD 9) (fB1 bV (aC (aD 3) aH))) (aC (fC (.int 0)) aH))) (fB1 Z0C (aC (uJ (fEq (aD 8) (fC (.int 0)))) aH)) [S0,S1,u,F,G,I,J,P,K,L,b2,b3,b4,b5,b6,b7]=some (.int (j:Int)):=by
  have y1:fB1 bV (aC (aD 3) aH) [S0,S1,u,F,G,I,J,P,K,L,b2,b3,b4,b5,b6,b7]=some (.int (H.length:Int)):=cM (xs:=[.lst (H.map (eR ins rows outs))]) rfl (by simp only[bV,Qaa]);have y2:=nL (C:=λ_ j=>0<j) (g:=λi j=>D.int (i%j)) (fa:=aD 9) (env:=[S0,S1,u,F,G,I,J,P,K,L,b2,b3,b4,b5,b6,b7]) (i:=n) rfl y1 (by omega);rw[ev_Ix,ev_Lst,aI y2 (aI (d:=.int 0) rfl rfl)];have e8:∀b,fEq (aD 8) (fC (.int 0)) [S0,S1,u,F,G,I,J,P,K,L,b2,b3,b4,b5,b6,b7]=some b->fB1 Z0C (aC (uJ (fEq (aD 8) (fC (.int 0)))) aH) [S0,S1,u,F,G,I,J,P,K,L,b2,b3,b4,b5,b6,b7]=some (.int (if b then 1 else 0)):=λb h=>cM (xs:=[.bl b]) (aI (by rw[ev_OfB,h];rfl) rfl) (by cases b<;>rfl);have q8:fEq (aD 8) (fC (.int 0)) [S0,S1,u,F,G,I,J,P,K,L,b2,b3,b4,b5,b6,b7]=some (decide ((i:Int)=0)):=(show eqN 8 (.int (i:Int)) (.int 0)=_ from eqN_int _ _ _)
  rw[e8 _ q8];by_cases h:(i:Int)=0
  .rw[Rk h];exact⟨0,hFp,rfl⟩
  .rw[Rj h];exact⟨(n%(H.length:Int)).toNat,by omega,by rw[Qbj z0];rfl⟩
 obtain⟨fj,e10⟩:=a4 (E:=[S0,S1,u,F,G,I,J,P,K,L,b2,b3,b4,b5,b6,b7]) j hj rfl rfl ej;have O:=SA (aS ins rows fj);generalize tests.map (iJ (aS ins rows fj) outs)=new at e10 O
 let Q:Slot:=some (true,LL new)
 have FL:∀xs,jR [LI xs]=some (LI xs):=λxs=>by simp only[jR,LI,dP,Rm]
 have d64:fS n 64:=⟨by decide,by decide⟩;have d1024:fS n 1024:=⟨by decide,by decide⟩;have d512:fS n 512:=⟨by decide,by decide⟩;have y1:=Y.o1;have u0:=QaB (n/64) (show(q:Int)≠0 by omega);have u1:=Qas (n/64) (show 0<(q:Int) by omega);have w0:=QaB (n/1024) (show(outs.length:Int)≠0 by omega);have w1:=Qas (n/1024) (show 0<(outs.length:Int) by omega);have c0:=QaB (n/512) (show(q:Int)+1≠0 by omega);have c1:=Qas (n/512) (show 0<(q:Int)+1 by omega);obtain⟨A,hA⟩:∃k:Nat,n/64%(q:Int)=(k:Int):=⟨(n/64%(q:Int)).toNat,by omega⟩;obtain⟨B,hB⟩:∃k:Nat,n/1024%(outs.length:Int)=(k:Int):=⟨(n/1024%(outs.length:Int)).toNat,by omega⟩;obtain⟨c,hc⟩:∃k:Nat,n/512%((q:Int)+1)=(k:Int):=⟨(n/512%((q:Int)+1)).toNat,by omega⟩;have nl:=O.1;have tl:=htold.1;have hAl:A<new.length:=by omega
 have U:=Qaj hAl;generalize new[A]=xs at U;obtain⟨hxb,hxl⟩:=O.2 xs (QaK U);have hy:=Qaj (show B<xs.length by omega);generalize xs[B]=y at hy;have hyb:Bt (1-y):=by rcases hxb y (QaK hy)with rfl|rfl<;>decide
 have W:=O.bend (k:=B) U hyb;have a0:=htold.cut O (c:=c) (by omega);generalize hbt:new.set A (xs.set B (1-y))=bent at W;generalize hmx:told.take c++new.drop c=mix at a0
 let X:Slot:=some (true,LL bent)
 let M:Slot:=some (true,.int (A:Int))
 let N:Slot:=some (true,.int (B:Int))
 let R:Slot:=some (true,.int (c:Int))
 refine⟨[S0,S1,u,F,G,I,J,oF (LL new),K,L,oF (LL new),oF (LL bent),M,N,R,oF (LL mix)],?_,new,false,_,_,_,_,_,_,_,_,O,rfl⟩;show cG _ _ [S0,S1,u,F,G,I,J,P,K,b1,b2,b3,b4,b5,b6,b7] _=_;refine iH (d:=.int n) (aJ (xs:=[.int (nth ns (3+(i:Int))),.int ((i:Int)+20)]) (aI (aJ (xs:=[LI ns,.int (3+(i:Int))]) rfl (Z6b (by omega))) rfl) en) ?_;refine iH e10 ?_;refine iH (d:=LL new) (by rw[bI LI LI (xs:=new) (by rfl) (by omega) (λxs _=>cM (xs:=[LI xs]) rfl (FL xs))];rfl) ?_;refine iH (d:=.int (A:Int)) (by rw[<- hA];exact nL (C:=λ_ j=>0<j) (nL (C:=fS) rfl rfl d64) rfl (by omega)) ?_;refine iH (d:=.int (B:Int)) (by rw[<- hB];exact nL (C:=λ_ j=>0<j) (nL (C:=fS) rfl rfl d1024) (cM (xs:=[LI outs]) rfl (by simp only[bV,LI,Qaa])) (by omega)) ?_;have ea:fIx (fIx (aD 11) (aD 12)) (aD 13) [S0,S1,u,F,G,I,J,P,K,L,Q,oT (LL new),M,N,b6,b7]=some (.int y):=by
  have z:fIx (aD 11) (aD 12) [S0,S1,u,F,G,I,J,P,K,L,Q,oT (LL new),M,N,b6,b7]=some (LI xs):=(show atI (new.map LI) (A:Int)=_ from gM (by simp[U]))
  rw[ev_Ix,z];exact(show atI (xs.map D.int) (B:Int)=_ from gM (by simp[hy]))
 have eb:fI0 (λi j=>.int (i-j)) (fC (.int 1)) (fIx (fIx (aD 11) (aD 12)) (aD 13)) [S0,S1,u,F,G,I,J,P,K,L,Q,oT (LL new),M,N,b6,b7]=some (.int (1-y)):=by rw[ev_I0',ea,ev_C]
 refine Zbq (Z5h (ds:=new.map LI) (es:=xs.map D.int) (j:=A) (n:=B) eb rfl rfl rfl (O7 (by omega) (by rw[Qaa];omega)) (by simp[U,LI]) (O7 (by omega) (by rw[Qaa];omega)) (dP xs) rfl) ?_;have eB:D.lst ((new.map LI).set A (.lst ((xs.map D.int).set B (.int (1-y)))))=LL bent:=by
  rw[<- hbt];unfold LL LI;rw[List.map_set,List.map_set]
 rw[eB];refine iH (d:=.int (c:Int)) (by rw[<- hc];exact nL (C:=λ_ j=>0<j) (nL (C:=fS) rfl rfl d512) rfl (by omega)) ?_;have ecat:Z0e (Z0d (aD 7) gG (fP (aD 14))) (Z0d (aD 10) (fP (aD 14)) gG) [S0,S1,u,F,G,I,J,P,K,L,Q,X,M,N,R,b7]=some (LL mix):=by
  have k1:Z0d (aD 7) gG (fP (aD 14)) [S0,S1,u,F,G,I,J,P,K,L,Q,X,M,N,R,b7]=some (.lst ((told.take c).map LI)):=by
   show some (D.lst (PD.cutD (told.map LI) none (some (c:Int))))=_;rw[jD,List.map_take]
  have k2:Z0d (aD 10) (fP (aD 14)) gG [S0,S1,u,F,G,I,J,P,K,L,Q,X,M,N,R,b7]=some (.lst ((new.drop c).map LI)):=by
   show some (D.lst (PD.cutD (new.map LI) (some (c:Int)) none))=_;rw[Z6L,List.map_drop]
  unfold Z0e;rw[k1,k2];simp only;rw[if_pos (by rw[Qaa,Qaa,Qat,QbA];omega),<- Qaw,hmx];rfl
 show cG _ _ [S0,S1,u,F,G,I,J,P,K,L,Q,X,M,N,R,b7] _=_;refine W9 (ds:=[LL new,LL bent,LL mix]) (by rw[ev_seq,ev_Lst,aI (d:=LL new) rfl (aI (d:=LL bent) rfl (aI ecat rfl))];rfl)
  (λi env=>∃x,(i=3->x=some (false,LL mix))/\env=[S0,S1,u,F,G,I,J,oF (LL told),K,L,oF (LL new),oF (LL bent),M,N,R,x]) ⟨b7,by simp,rfl⟩ ?_ ?_
 .rintro k d env hd ⟨x,_,rfl⟩;have hk:(k=0/\d=LL new)\/(k=1/\d=LL bent)\/(k=2/\d=LL mix):=by
   match k,hd with
   |0,h=>cases h;simp
   |1,h=>cases h;simp
   |2,h=>cases h;simp
  obtain⟨t,rfl,hS⟩:∃t,d=LL t/\Sh q outs.length t:=by
   rcases hk with⟨_,h⟩|⟨_,h⟩|⟨_,h⟩
   .exact⟨_,h,O⟩
   .exact⟨_,h,W⟩
   .exact⟨_,h,a0⟩
  refine⟨[S0,S1,u,F,G,I,J,oF (LL told),K,L,oF (LL new),oF (LL bent),M,N,R,oF (LL t)],L4 (w1:=[cX CD (bD C ins rows outs)]) ?_ rfl,_,λh=>?_,rfl⟩
  .unfold Z06 gB;rw[lA (ds:=[.lst (H.map (eR ins rows outs)),LI tests,LL t]) rfl (NR t hS)];rfl
  .rcases hk with⟨z,_⟩|⟨z,_⟩|⟨_,z⟩
   .omega
   .omega
   .rw[z]
 .rintro env ⟨x,hx3,rfl⟩;rw[hx3 rfl];rfl
def Z6K{ns:Ab Int}{lo hi:Aa Int}{env:En}{fl fh:En->Aa (Aa Int)}(h:aD 0 env=some (LI ns))(h1:fl env=some lo)(a:fh env=some hi):∃ms:Ab Int,fSl (aD 0) fl fh env=some (LI ms)/\ms.length<=ns.length/\∀m∈ms,m∈ns:=by
 refine⟨(ns.drop (HT.sIx ns.length 0 lo)).take (HT.sIx ns.length ns.length hi-HT.sIx ns.length 0 lo),?_,by rw[Qat,QbA];omega,λc hc=>List.mem_of_mem_drop (Qbx hc)⟩;unfold fSl;rw[h,h1,a];show(if flats (ns.map D.int)=true then some (D.lst (PD.cutD (ns.map D.int) lo hi)) else none)=_;rw[if_pos (dP ns)];unfold PD.cutD LI;rw[Qaa,List.map_take,List.map_drop]
def Z67{C CD:Af}(ns:Ab Int)(n:ns.length<=63)(b:∀i∈ns,Builtin.Int.intBits i<=1048576):Z96 C CD [.lst (ns.map D.int)]=some (.bl true):=by
 refine aZ ?_;show Z6r C CD [oF (LI ns),none,none,none]=_;unfold Z6r;show(cG _ _ _ []).1=_;refine congrArg Prod.fst (a₂:=(Res.ret (.bl true),([]:Ab D))) ?_;obtain⟨_,I,i1,f,j,H,w,N,x,B,G,_,rfl⟩:=Z2x (C:=C) n b;obtain⟨p,r,L,A⟩:=Z6K (ns:=ns) (fl:=fP (kI 1)) (fh:=fP (kI 20)) (env:=[oF (LI ns),oT (aX i1 f j),none,none]) rfl rfl rfl;obtain⟨_,t,i2,l,h,K,F,M,J,v,q,_,rfl⟩:=Z2x (C:=C) (ns:=p) (by omega) (λi hi=>b i (A i hi));refine iH (aJ (xs:=[LI ns]) rfl I) ?_;refine iH (aJ (xs:=[LI p]) (aI r rfl) t) ?_;refine Z5j (d:=.bl true) Z6J (by show pln (cX CD (bD C 0 [.fix 0] [0]))=true;rfl) λa=>?_;have u:Dr i1 f j:=⟨H,w,by omega,x,B,G⟩;have o:Dr i2 l h:=⟨K,F,by omega,J,v,q⟩;obtain⟨ks,y,O,E⟩:=Z6K (ns:=ns) (fl:=fP (kI 3)) (fh:=gG) (env:=[oF (LI ns),oT (aX i1 f j),oT (aX i2 l h),oT (.fn a [] [])]) rfl rfl rfl;refine⟨cX CD (bD C i2 l h),?_⟩;show cG _ _ [oF (LI ns),oT (aX i1 f j),oT (aX i2 l h),oT (.fn a [] [])] [cX CD (bD C 0 [.fix 0] [0])]=_;refine vI (e:=[oF (LI ns),oT (aX i1 f j),oT (aX i2 l h),oT (.fn a [] [])]) (w1:=[cX CD (bD C i1 f j)]) (L4 (Z6u (w1:=[cX CD (bD C i2 l h)]) (w2:=[cX CD (bD C i1 f j)]) ?_ ?_) rfl) (xT (lA (ds:=[aX i2 l h,LI ks]) (aI rfl (aI rfl (aI y rfl))) (O4 o λi hi=>b i (E i hi))))
 .unfold Z06 gB;rw[lA (ds:=[aX i2 l h,LI ns]) rfl (O4 o b)];rfl
 .unfold Z06 gB;rw[lA (ds:=[aX i1 f j,LI ns]) rfl (O4 u b)];rfl
end G
namespace FR
open PySem PySem.W PySem.Calls PyProof.Rows
structure TC where
 p:Aj
 w:Ak
 m:Nat
 a:Aa Ad
 b:Ab Stmt
 e:Env
 q:Pos
variable {z:TC}{α β:Type}{s s' s'' s₁ s₂:Ac}
def Go(z:TC)(n:Nat)(s:Ac)(t:Thread)(s':Ac)(t':Thread):Prop :=
 ∀N r,topRun treeTable z.p z.w z.m z.a N s' t'=some r->topRun treeTable z.p z.w z.m z.a (n+N) s t=some r
def Go.refl:Go z 0 s t s t:=λN r h=>by rw[Qa7];exact h
def Go.trans(a:Go z n s t s' t')(b:Go z m s' t' s'' t''):Go z (n+m) s t s'' t'' :=
 λN r h=>by rw[Nat.add_assoc];exact a _ _ (b _ _ h)
def Go.mono(l:n<=m){s s':Ac}{t t':Thread}(a:Go z n s t s' t'):Go z m s t s' t':=λN r h=>by
 have:=topRun_mono (m-n) _ _ _ _ (a N r h);rw[show n+N+(m-n)=m+N by omega]at this;exact this
theorem Go.step(h1:through t=false)(b:stepOk z.m z.a t=true)(e:step (denote treeTable) z.p z.w s t=.go s' t'):Go z 1 s t s' t':=λN r h=>by
 rw[Nat.add_comm];unfold topRun;rw[h1,b,e];exact h
def Go.of_topGo(h:topGo treeTable z.p z.w z.m z.a n s t=some (s',t')):Go z n s t s' t':=λN r k=>go_top h k
def goT(p:Aj)(w:Ak)(m0:Nat)(ann:Aa Ad):Nat->SharedT->Thread->Aa (SharedT×Thread)
 |0,s,t=>some (s,t)
 |n+1,s,t=>match through t with
  |true=>none
  |false=>match stepOk m0 ann t with
   |false=>none
   |true=>match stepT (denote treeTable) p w s t with
    |some (s',t')=>goT p w m0 ann n s' t'
    |none=>none
theorem Z6n:∀{n:Nat}{s s':SharedT}{t t':Thread},goT z.p z.w z.m z.a n s t=some (s',t')->topGo treeTable z.p z.w z.m z.a n s.abs t=some (s'.abs,t')
 |0,_,_,_,_,h=>by cases h;rfl
 |n+1,s,s',t,t',h=>by
  unfold goT at h;unfold topGo;cases he:through t with
  |true=>rw[he]at h;cases h
  |false =>
   rw[he]at h;cases b:stepOk z.m z.a t with
   |false=>rw[b]at h;cases h
   |true =>
    rw[b]at h;cases hs:stepT (denote treeTable) z.p z.w s t with
    |none=>rw[hs]at h;cases h
    |some r=>obtain⟨s₂,e⟩:=r;rw[hs]at h;rw[stepT_spec hs];exact Z6n h
def Go.of_goT{n:Nat}{s s':SharedT}{t t':Thread}(h:goT z.p z.w z.m z.a n s t=some (s',t')):Go z n s.abs t s'.abs t':=Go.of_topGo (Z6n h)
def Tp(z:TC){α:Type}(n:Nat)(m:Sem α)(s:Ac)(a:α)(s':Ac):Prop :=
 ∀(K:α->Sem Fin) (H:Ad->Sem Fin) (gd:Bool->Bool) (lv:Ab Ad->Ab Ad) (pos:Pos),∃pos',Go z n s ⟨m.wrap K H gd lv,.body z.b z.e,pos,[topFrame z.q]⟩ s' ⟨K a,.body z.b z.e,pos',[topFrame z.q]⟩
theorem Tp.mono(l:n<=k)(h:Tp z n m s a s'):Tp z k m s a s':=λK H b e pos =>
 let ⟨pos',g⟩:=h K H b e pos;⟨pos',g.mono l⟩
theorem Tp.pure:Tp z 0 (Pure.pure a:Sem α) s a s:=λK H gd lv pos=>⟨pos,Go.refl⟩
def Tp.bind{n k:Nat}{m:Sem α}{f:α->Sem β}{a:α}{x:β}(h:Tp z n m s a s')(h':Tp z k (f a) s' x s'') :
  Tp z (n+k) (m >>= f) s x s'':=λK H gd lv pos=>by
 obtain⟨pos',g⟩:=h (λa=>(f a).wrap K H gd lv) (λe=>(Sem.raise e:Sem β).wrap K H gd lv) (λg=>gd (id g)) (λl=>lv (id l)) pos;obtain⟨b,g'⟩:=h' K H gd lv pos';refine⟨b,?_⟩;rw[Sem.bind_eq_wrap',Sem.wrap_wrap];exact g.trans g'
theorem Tp.keep(h:Tp z n m s a s'):Tp z n (m.keep vs) s a s':=λK H gd lv pos=>by
 obtain⟨pos',g⟩:=h K H (λg=>gd (id g)) (λl=>lv (vs++l)) pos;refine⟨pos',?_⟩;rw[Sem.keep_eq_wrap,Sem.wrap_wrap];exact g
theorem Tp.holding(h:Tp z n m s a s'):Tp z n (holding vs m) s a s':=by
 unfold PySem.holding;split
 .exact h
 .exact h.keep
theorem Tp.rule:Tp z 1 (rule tag) s () s:=λK H a b pos =>
 ⟨pos,Go.step rfl rfl rfl⟩
theorem Tp.standAt:Tp z 1 (standAt ps) s () s:=λK H gd lv pos=>⟨ps,Go.step rfl rfl rfl⟩
theorem Tp.loadPart(h:s.heap.get? a=some o):Tp z 1 (loadPart a part) s o s:=λK H gd lv pos=>by
 obtain⟨heap,gens,drawn,toks,os⟩:=s;refine⟨pos,Go.step rfl rfl ?_⟩;show step (denote treeTable) z.p z.w _ ⟨.load a part _,_,_,_⟩=_;simp only[step,show heap.get? a=some o from h]
 rfl
theorem Tp.updatePart(h:(s.heap.get? a).isSome=true)(b:Nat.ble z.m a=true):Tp z 1 (updatePart a part f) s () { s with heap:=s.heap.update a f }:=λK H gd lv pos=>by
 obtain⟨heap,gens,drawn,toks,os⟩:=s;refine⟨pos,Go.step rfl ?_ ?_⟩
 .show((true&&(true&&true))&&(Nat.ble z.m a||a==mainNs||a==cStatics||z.a==some (.ref a)))=true;rw[b];rfl
 .show step (denote treeTable) z.p z.w _ ⟨.update a part f _,_,_,_⟩=_;simp only[step,show(heap.get? a).isSome=true from h,Rm]
  rfl
theorem Tp.alloc:Tp z 1 (alloc o) s s.heap.objs.size { s with heap:=s.heap.push o }:=λK H gd lv pos=>by
 obtain⟨heap,gens,drawn,toks,os⟩:=s;exact⟨pos,Go.step rfl rfl rfl⟩
theorem Tp.dictEntries(h:s.heap.get? a=some o)(hd:o.data=.dict es n):Tp z 1 (dictEntries a part) s es s:=by
 unfold PySem.dictEntries;refine Tp.bind (n:=1) (k:=0) (Tp.loadPart h) ?_;rw[hd];exact Tp.pure
theorem Tp.dictEpoch(h:s.heap.get? a=some o)(hd:o.data=.dict es n):Tp z 1 (dictEpoch a part) s n s:=by
 unfold PySem.dictEpoch;refine Tp.bind (n:=1) (k:=0) (Tp.loadPart h) ?_;rw[hd];exact Tp.pure
theorem Tp.forIn{c:Nat}{f:α->β->Sem (ForInStep β)}{x:β}:∀(l:Ab α),(∀a∈l,Tp z c (f a x) s (.yield x) s)->Tp z (l.length*c) (forIn l x f) s x s
 |[],_=>by rw[List.forIn_nil];exact Tp.mono (Qa2 _) Tp.pure
 |a::l,h=>by
  rw[Qbc];refine Tp.mono (show c+l.length*c<=(a::l).length*c by rw[Qaf,Nat.succ_mul];omega) ?_;exact Tp.bind (h a Qah) (Tp.forIn l λa ha=>h a (Qab _ ha))
theorem Tp.tableMayTell{c:Nat}{b:Ad}{a:Ab Ad}(e:Tp z c (eqIsQuiet 8 b) s true s)(hs:∀v∈a,Tp z c (eqIsQuiet 8 v) s true s) :
  Tp z (c+a.length*c) (tableMayTell b a) s false s:=by
 unfold PySem.tableMayTell;split
 .exact Tp.mono (Qa2 _) Tp.pure
 .refine Tp.bind (n:=c) e ?_;simp only[Bool.not_true,QaZ,Rn];refine Tp.mono (show a.length*c+0<=_ by omega) ?_;refine Tp.bind (Tp.forIn (c:=c) _ λv hv=>?_) Tp.pure;refine Tp.mono (show c+0<=c by omega) ?_;refine Tp.bind (hs v hv) ?_;simp only[Bool.not_true,QaZ,Rn];exact Tp.pure
def Z3L(n:Nat)(f:Nat->Aa Int)(h:Int):(placesWithHash n f h).length<=n:=by
 unfold placesWithHash;exact QaC (Qbr _ _) (by rw[QaU];exact Qan _)
theorem sG(f:α->Aa β):∀l:Ab α,(l.filterMap f).length<=l.length
 |[]=>Qan _
 |a::l=>by
  have:=sG f l;rw[List.filterMap_cons];split<;>simp only[Qaf]<;>omega
def Tp.dictFind_none{d a:Af}{o:Obj}{es:Ae DictEntry}{ep:Nat}{h:Int}{ce cq:Nat}(j:s.heap.get? d=some o)(hd:o.data=.dict es ep)
  (y:∀e∈es,(e.key == .ref a)=false) (hq:Tp z cq (eqIsQuiet 8 (.ref a)) s true s) (l:∀e∈es,Tp z cq (eqIsQuiet 8 e.key) s true s)
  (r:∀e∈es,Tp z ce (eqBool e.key (.ref a)) s false s) :
  Tp z (1+(cq+es.size*cq)+es.size*(ce+3)) (dictFind d (.ref a) h) s none s:=by
 have f:¬(es.any λe=>e.key==Value.ref a&&e.hash != h)=true:=by
  rw[<- Array.any_toList,List.any_eq_true];rintro⟨e,w,hc⟩;rw[y e (Array.mem_toList_iff.mp w)]at hc;cases hc
 have q:∀v∈(placesWithHash es.size (λi=>es[i]?.map (·.hash)) h).filterMap (λi=>es[i]?.map (·.key)),Tp z cq (eqIsQuiet 8 v) s true s:=by
  intro v x;obtain⟨i,_,hi⟩:=List.mem_filterMap.mp x;cases hei:es[i]? with
  |none=>rw[hei]at hi;cases hi
  |some e =>
   rw[hei]at hi;obtain rfl:e.key=v:=by simpa using hi
   exact l e (Array.mem_of_getElem? hei)
 have t:=Z3L es.size (λi=>es[i]?.map (·.hash)) h;have p:=sG (λi=>es[i]?.map (·.key)) (placesWithHash es.size (λi=>es[i]?.map (·.hash)) h);have B:((placesWithHash es.size (λi=>es[i]?.map (·.hash)) h).filterMap (λi=>es[i]?.map (·.key))).length*cq<=es.size*cq:=Nat.mul_le_mul_right _ (QaC p t);have A:(placesWithHash es.size (λi=>es[i]?.map (·.hash)) h).length*(ce+3)<=es.size*(ce+3):=Nat.mul_le_mul_right _ t;unfold PySem.dictFind;refine Tp.holding ?_;refine Tp.mono (show 1+((cq+es.size*cq)+es.size*(ce+3))<=_ by omega) ?_;refine Tp.bind (Tp.dictEntries j hd) ?_;dsimp only;rw[if_neg (show ¬((Value.ref a::(placesWithHash es.size (λi=>es[i]?.map (·.hash)) h).filterMap (λi=>es[i]?.map (·.key))).all carriedByValue)=true by simp[carriedByValue])];rw[if_neg f];by_cases b:(((placesWithHash es.size (λi=>es[i]?.map (·.hash)) h).filterMap (λi=>es[i]?.map (·.key)))==[Value.ref a])=true <;>
 (first | rw [if_pos b] | rw [if_neg b]) <;> (first | refine Tp.bind (n:=cq + es.size * cq) (Tp.mono (Qa2 _) Tp.pure) ?_ | refine Tp.bind (n:=cq + es.size * cq) (Tp.mono (by omega) (Tp.tableMayTell hq q)) ?_) <;> (
  rw[if_neg (by simp)];refine Tp.mono (show(placesWithHash es.size (λi=>es[i]?.map (·.hash)) h).length*(ce+3)+0<=_ by omega) ?_;refine Tp.bind (Tp.forIn (c:=ce+3) _ λi hi=>?_) Tp.pure;cases hei:es[i]? with
  |none=>dsimp only;exact Tp.mono (Qa2 _) Tp.pure
  |some e =>
   dsimp only;by_cases u:(e.hash==h)=true
   .rw[if_pos u];have he:=r e (Array.mem_of_getElem? hei);refine Tp.mono (show 1+(ce+(1+(1+0)))<=ce+3 by omega) ?_;refine Tp.bind (Tp.dictEpoch j hd) (Tp.bind he (Tp.bind (Tp.dictEpoch j hd) ?_));rw[if_neg (by simp)];simp only[QaZ,Rn];refine Tp.bind Tp.rule ?_
    first|rw[if_neg (by simp)]|skip
    exact Tp.pure
   .rw[if_neg u];exact Tp.mono (Qa2 _) Tp.pure)
def Tp.dictSet_new(n:Tp z ch (pyHash (.ref a)) s h { s with toks:=t })
  (b:s.heap.get? d=some o) (hd:o.data=.dict es ep) (l:Nat.ble z.m d=true) (hsz:es.size+1<=sizeLine)
  (p:∀e∈es,(e.key == .ref a)=false) (hq:Tp z cq (eqIsQuiet 8 (.ref a)) { s with toks:=t } true { s with toks:=t }) (i:∀e∈es,Tp z cq (eqIsQuiet 8 e.key) { s with toks:=t } true { s with toks:=t })
  (j:∀e∈es,Tp z ce (eqBool e.key (.ref a)) { s with toks:=t } false { s with toks:=t }) :
  Tp z (ch+((1+(cq+es.size*cq)+es.size*(ce+3))+4)) (dictSet d (.ref a) v) s () { s with heap:=s.heap.update d (Obj.mapDictKeys (·.push ⟨h,.ref a,v⟩)),toks:=t }:=by
 unfold PySem.dictSet;refine Tp.holding (Tp.bind n ?_);unfold PySem.dictSetHashed;refine Tp.holding (Tp.bind (Tp.dictFind_none (s:={ s with toks:=t }) b hd p hq i j) ?_);dsimp only;refine Tp.mono (show 1+(1+(1+(1+0)))<=4 by omega) ?_;refine Tp.bind Tp.rule ?_;unfold PySem.updateDictKeys;refine Tp.bind (Tp.loadPart (s:={ s with toks:=t }) b) ?_;rw[hd];dsimp only;refine Tp.bind (Tp.updatePart (s:={ s with toks:=t }) (by show(s.heap.get? d).isSome=true;rw[b];rfl) l) ?_;unfold PySem.lookBehind;have f:(s.heap.update d (Obj.mapDictKeys (·.push ⟨h,.ref a,v⟩))).get? d=some (Obj.mapDictKeys (·.push ⟨h,.ref a,v⟩) o):=by
  exact Heap.get?_update_self _ b (Obj.isFreed_of_dict (Obj.data_mapDictKeys hd _))
 refine Tp.bind (Tp.loadPart f) ?_;have hp:(Obj.mapDictKeys (·.push ⟨h,.ref a,v⟩) o).data.pastItsLine=none:=by
  obtain⟨c,r,q,u⟩:=o;dsimp only at hd;subst hd;show Data.pastItsLine (.dict _ _)=none;simp[Data.pastItsLine];omega
 rw[hp];exact Tp.pure
theorem Tp.of_goT{α:Type}{n:Nat}{m:Sem α}{a:α}{s s':SharedT}(h:∀K H gd lv pos,∃pos',goT z.p z.w z.m z.a n s ⟨m.wrap K H gd lv,.body z.b z.e,pos,[topFrame z.q]⟩=some (s',⟨K a,.body z.b z.e,pos',[topFrame z.q]⟩)) :
  Tp z n m s.abs a s'.abs:=λK H gd lv pos=>let ⟨pos',e⟩:=h K H gd lv pos;⟨pos',Go.of_goT e⟩
theorem Tp.reduced:Tp z 1 (pyHashByItsType.reduced i) s (reduceHash i) s:=by
 unfold pyHashByItsType.reduced;by_cases a:(decide (-(2:Int)^63<=i)&&decide (i<2^63))=true
 .have e:reduceHash i=if i == -1 then -2 else i:=by unfold reduceHash;rw[if_pos a]
  rw[if_pos a,e];exact Tp.mono (Qa2 _) Tp.pure
 .rw[if_neg a];unfold reduceHash;rw[if_neg a];exact Tp.bind (k:=0) Tp.rule Tp.pure
def Tp.pyHash_ref(b:Tp z 1 (cRoomFor "hash" [.ref a]) s () s)(f:Tp z 1 (specialOf (.ref a) "__hash__") s (some (.builtin "tuple.__hash__")) s)
  (e:∀act,Tp z n (callSpecialIfBoundUnlessNone? (.ref a) "__hash__" act) s (some (.int x t)) s'):Tp z (n+4) (pyHash (.ref a)) s (reduceHash x) s':=by
 refine Tp.mono (show 1+(1+(1+(n+1)))<=n+4 by omega) ?_;unfold pyHash;unfold pyHashByItsType;refine Tp.bind b (Tp.bind f ?_);show Tp _ _ (if (some (Value.builtin "tuple.__hash__")==some Value.none)=true then _ else _) _ _ _;rw[if_neg (by rw[beq_builtin_none];exact Qbb)];refine Tp.bind f ?_;show Tp _ _ (callSpecialIfBoundUnlessNone? (.ref a) "__hash__" _ >>= _) _ _ _;exact Tp.bind (e _) Tp.reduced
theorem J6(f g:Obj->Obj):∀(t:BT) (a:Nat),(t.set a f).set a g=t.set a (λo=>g (f o))
 | .nil,_=>rfl
 | .node v l r,a=>by
  rw[BT.set_node v l r a f,BT.set_node v l r a];by_cases h:a=0
  .rw[if_pos h,if_pos h,BT.set_node,if_pos h]
  .rw[if_neg h,if_neg h];by_cases q:a%2=1
   .rw[if_pos q,if_pos q,BT.set_node,if_neg h,if_pos q,J6 f g l]
   .rw[if_neg q,if_neg q,BT.set_node,if_neg h,if_neg q,J6 f g r]
def Tp.storeAll_nil:Tp z 0 (storeAll d []) s PUnit.unit s:=by
 unfold storeAll;rw[List.forIn_nil];exact Tp.pure
def Tp.storeAll_cons(h:Tp z c (dictSet d k v) s () s₁)(h':Tp z c' (storeAll d vs) s₁ PUnit.unit s₂) :
  Tp z (c+c') (storeAll d ((k,v)::vs)) s PUnit.unit s₂:=by
 unfold storeAll at h' ⊢;rw[Qbc];refine Tp.bind (n:=c) (Tp.mono (show c+0<=c by omega) (Tp.bind h Tp.pure)) ?_;exact h'
theorem Tp.subDict(b:pairs.length<=15)
  (h1:Tp z c (evalPairs pairs) { s with heap:=s.heap.push { cls:=.type "dict",data:=.dict #[] } } vs s₁) (e:Tp z c' (storeAll s.heap.objs.size vs) s₁ PUnit.unit s₂) :
  Tp z (1+(c+c')) (subDict pairs) s s.heap.objs.size s₂:=by
 unfold PySem.subDict;refine Tp.bind Tp.alloc ?_;refine Tp.mono (show(c+c')+0<=c+c' by omega) ?_;refine Tp.bind (a:=()) (Tp.holding ?_) Tp.pure;rw[if_pos b];refine Tp.bind h1 ?_;refine Tp.holding ?_;exact Tp.mono (show c'+0<=c' by omega) (Tp.bind e Tp.pure)
theorem Tp.Dict(a:keys.all (·.isSome)=true)(h:keys.length=values.length)(l:keys≠[])(f:keys.length<=15)
  (h1:Tp z c (evalPairs (pairTrees keys values z.e pos)) { s with heap:=s.heap.push { cls:=.type "dict",data:=.dict #[] } } vs s₁) (j:Tp z c' (storeAll s.heap.objs.size vs) s₁ PUnit.unit s₂) :
  Tp z (1+(1+(c+c'))) (eval (.Dict keys values pos) z.e) s (.ref s.heap.objs.size) s₂:=by
 have b:=pairTrees_length keys values z.e pos a h;have i:pairTrees keys values z.e pos≠[]:=by
  intro he;rw[he]at b;exact l (List.length_eq_zero_iff.mp b.symm)
 rw[arm_eval_Dict,zip_pairTrees keys values z.e pos a h,dictDisplay_pairs _ i (by rw[b];omega)];refine Tp.bind Tp.standAt ?_;exact Tp.mono (show(1+(c+c'))+0<=1+(c+c') by omega) (Tp.bind (Tp.subDict (by rw[b];exact f) h1 j) Tp.pure)
theorem Tp.Assign(a:Tp z 0 (swapsWithSole targets value pos.line z.e) s false s)(h1:Tp z c (eval value z.e) s v s₁)
  (b:Tp z c' (swappedStores targets value z.e >>= λx=>assignStores z.e v x ((assignEach targets z.e).map (·.2))) s₁ fl s₂):Tp z (1+(0+(c+c'))) (exec (.Assign targets value pos) z.e) s fl s₂:=by
 rw[arm_exec_Assign];refine Tp.bind Tp.standAt (Tp.bind a ?_);simp only[QaZ,Rn];exact Tp.bind h1 b
def Z7c{T:BT}{D n t t':Nat}{X a o:Obj}{f:Obj->Obj}{os:OsState}{life:Life}{gens:Ae GenState}{drawn:Drawn}(i:f X=a)(b:(T.set D (λ_=>X)).get D=some o) :
  ({ (SharedT.mk (T.set D (λ_=>X)) n life gens drawn t os).abs with heap:=(SharedT.mk (T.set D (λ_=>X)) n life gens drawn t os).abs.heap.update D f,toks:=t' }:Ac)=(SharedT.mk (T.set D (λ_=>a)) n life gens drawn t' os).abs:=by
 have e:absHeap (T.set D (λ_=>a)) n life=(absHeap (T.set D (λ_=>X)) n life).update D f:=by
  rw[<- absHeap_set b,J6,i]
 exact congrArg (λh=>Shared.mk h gens drawn t' os) e.symm
def Tp.to(e:s'=s'')(h:Tp z n m s a s'):Tp z n m s a s'':=e ▸ h
def Z72{P:DictEntry->Prop}{es:Ae DictEntry}{x:DictEntry}(h:∀e∈es,P e)(a:P x):∀e∈es.push x,P e:=λe he=>by
 rcases Array.mem_push.mp he with he|rfl
 .exact h e he
 .exact a
def all_nil{P:DictEntry->Prop}:∀e∈(#[]:Ae DictEntry),P e:=λe he=>by simp at he
def dX(es:Ae DictEntry)(ep:Nat):Obj:={ cls:=.type "dict",data:=.dict es ep }
def Tp.dictSetT{T:BT}{D n t t' ep:Nat}{es:Ae DictEntry}{os:OsState}{life:Life}{gens:Ae GenState}{drawn:Drawn}{a:Af}{v:Ad}{h:Int}{ch ce cq:Nat}
  (j:(T.set D (λ_=>dX es ep)).get D=some (dX es ep)) (o:D<n) (p:Nat.ble z.m D=true) (hsz:es.size+1<=sizeLine)
  (q:Tp z ch (pyHash (.ref a)) (SharedT.mk (T.set D (λ_=>dX es ep)) n life gens drawn t os).abs h (SharedT.mk (T.set D (λ_=>dX es ep)) n life gens drawn t' os).abs)
  (r:∀e∈es,(e.key == .ref a)=false)
  (hq:Tp z cq (eqIsQuiet 8 (.ref a)) (SharedT.mk (T.set D (λ_=>dX es ep)) n life gens drawn t' os).abs true (SharedT.mk (T.set D (λ_=>dX es ep)) n life gens drawn t' os).abs)
  (b:∀e∈es,Tp z cq (eqIsQuiet 8 e.key) (SharedT.mk (T.set D (λ_=>dX es ep)) n life gens drawn t' os).abs true (SharedT.mk (T.set D (λ_=>dX es ep)) n life gens drawn t' os).abs)
  (i:∀e∈es,Tp z ce (eqBool e.key (.ref a)) (SharedT.mk (T.set D (λ_=>dX es ep)) n life gens drawn t' os).abs false (SharedT.mk (T.set D (λ_=>dX es ep)) n life gens drawn t' os).abs) :
  Tp z (ch+((1+(cq+es.size*cq)+es.size*(ce+3))+4)) (dictSet D (.ref a) v) (SharedT.mk (T.set D (λ_=>dX es ep)) n life gens drawn t os).abs ()
   (SharedT.mk (T.set D (λ_=>dX (es.push ⟨h,.ref a,v⟩) (ep+1))) n life gens drawn t' os).abs:=by
 have l:(SharedT.mk (T.set D (λ_=>dX es ep)) n life gens drawn t os).abs.heap.get? D=some (dX es ep):=abs_get o j;exact Tp.to (Z7c (f:=Obj.mapDictKeys (·.push ⟨h,.ref a,v⟩)) rfl j) (Tp.dictSet_new (t:=t') q l rfl p hsz r hq b i)
def Z5I{n N:Nat}{r:Ac}{st:Stmt}{rest:Ab Stmt}{pos:Pos}(h:Tp z n (exec st z.e) s .next s')
  (k:∀pos',topRun treeTable z.p z.w z.m z.a N s' (restOf rest z.e (.body z.b z.e) pos' [topFrame z.q])=some r):topRun treeTable z.p z.w z.m z.a (n+N) s (restOf (st::rest) z.e (.body z.b z.e) pos [topFrame z.q])=some r:=by
 obtain⟨pos',g⟩:=h (λf=>match f with | .next=>(execs rest z.e).wrap doneF (leaveH z.e) id id|f=>doneF f) (leaveH z.e) id id pos
 have:=g N r (k pos');unfold restOf;rw[execs_cons_wrap];exact this
end FR
set_option maxHeartbeats 0
namespace PySem.W.Fast
def tw436960891558533069:=0
def tw1771966232309911818:=0
def tw12391967787493935208:=0
def tw8372983945268833168:=0
def tw15079156302702475320:=0
def tw18328543706648329382:=0
def tw10635742365417445312:=0
def tw12202195498785695343:=0
def tw13192388921091968706:=0
def tw17511311415227778395:=0
def tw8047916840841396220:=0
def tw5790964243511970250:=0
def tw2858620745698358357:=0
def tw5333087368590213499:=0
def tw15093153716026854636:=0
def tw1331254715290520891:=0
def tw2048208300963356379:=0
def tw243785615752656593:=0
def tw308429748892523723:=0
def tw289563708335987550:=0
def tw17902979728209878346:=0
def tw2975241398088042761:=0
def tw7993143264876500135:=0
def tw18248755438209730409:=0
def tw10707719250062596769:=0
def tw13935289446155752861:=0
def tw5742919551912805227:=0
def tw13844425207119478827:=0
def tw1741879590084290979:=0
def tw7270562557461370772:=0
def tw13676194919285721319:=0
def tw1152425515195442402:=0
def tw10003835032675459020:=0
def tw7599272976152229606:=0
def tw7761367632103121236:=0
def tw4088900968564306532:=0
def tw9590562399114002246:=0
def tw14087823094124511877:=0
def tw1354153126002129757:=0
def tw8570424281913318007:=0
def tw16192438688975967121:=0
def tw12100902332314092111:=0
def tw2482644882873194210:=0
def tw13314535144256832855:=0
def tw16140998649573381473:=0
def tw18118227078792394936:=0
def tw12782972116989976932:=0
def tw2138684819642465111:=0
def tw10812368697604541428:=0
def tw4756935440585311032:=0
def tw6075886903843123097:=0
def tw2932526783427974618:=0
def tw8497091688172325734:=0
def tw1382637908561314824:=0
def tw15098548141931360376:=0
def tw5244317538465999721:=0
def tw12688696769459671378:=0
def tw5949140787037661013:=0
def tw15688638803002706335:=0
def tw14900861620468946457:=0
def tw14042517818913581503:=0
def tw2364800591690190665:=0
def tw1728312849099731343:=0
def tw3325667190407836152:=0
def tw8994862651184673374:=0
def tw11548625985831967172:=0
def tw12418871752795388570:=0
def tw17635583263032052531:=0
def tw9047875976821879098:=0
def tw5823957978020591202:=0
def tw11463736882107734439:=0
def tw4337816194392991176:=0
def tw14635042252949327031:=0
def tw14275769189782326864:=0
def tw7533947261855753660:=0
def tw2091210830085586825:=0
def tw2484899382392147721:=0
def tw15972923636127567149:=0
def tw11847108127423805584:=0
def tw4201268703021453760:=0
def tw14444581476522111295:=0
def tw17871301751488844294:=0
def tw16707385635266241821:=0
def tw2711332181841816555:=0
def tw2767912527576268730:=0
def tw7592103831777073183:=0
def tw2059769124762288422:=0
def tw204575727106367934:=0
def tw7800360649885303530:=0
def tw10716574659251407374:=0
def tw10101891285746795289:=0
def tw14097831986853905501:=0
def tw14324864534983210198:=0
def tw1778121823830450285:=0
def tw758008471934563973:=0
def tw17235475665016451803:=0
def tw1569100960082042912:=0
def tw14566902806209721821:=0
def tw5020434923968138091:=0
def tw1949416070006039497:=0
def tw2157926410236243167:=0
def tw2404714782727361287:=0
def tw4096779947458677624:=0
def tw11563377714207159110:=0
def tw16397240518097290424:=0
def tw17291815916798056743:=0
def tw4674003078817613616:=0
def tw2194976948157103840:=0
def tw1836977856389797382:=0
def tw10588141143473291030:=0
def tw5215923103439710569:=0
def tw5676665895729400594:=0
def tw18353383481702692829:=0
def tw6422589307526520132:=0
def tw2104091008595007086:=0
def tw12828649458213336425:=0
def tw15433511378131021071:=0
def tw3059130421280766283:=0
def tw8586017690227292581:=0
def tw10581229196507642579:=0
def tw13927341536703592229:=0
def tw5629431797844699928:=0
def tw3535160359973969823:=0
def tw15544392724489149058:=0
def tw5124347220643880722:=0
def tw18189138542135797926:=0
def tw6525766684374183621:=0
def tw5214912398273446548:=0
def tw15661996499658642019:=0
def tw15264116141076701506:=0
def tw13725660676006141636:=0
def tw948740444701212825:=0
def tw17672632561526015268:=0
def tw594027259090298081:=0
def tw3873102051137237923:=0
def tw11159138147389821624:=0
def tw17541390412736680698:=0
def tw11538023670384857439:=0
def tw2982639085848350477:=0
def tw14747853280719715932:=0
def tw2414120655292180463:=0
def tw1665222173530856:=0
def tw16528973351965468052:=0
def tw8440914595158818359:=0
def tw4883171573199174225:=0
def tw15664104676008140190:=0
def tw12444388724811969175:=0
def tw10368383578631103314:=0
def tw12105263227877110853:=0
def tw11268989126314381723:=0
def tw4861984201077689203:=0
def tw11073029016599121781:=0
def tw357479660273373133:=0
def tw13766165737501380920:=0
def tw12214421428499579310:=0
def tw14593974846387246087:=0
def tw12741710671940722671:=0
def tw15333906131207069970:=0
def tw2175937695706645007:=0
def tw15307077317795520842:=0
def tw8341277069395057511:=0
def tw3362338020510267906:=0
def tw12715438607757880281:=0
def tw279609826883389670:=0
def tw10410945159873318593:=0
def tw13160463745020158354:=0
def tw3197077021162604813:=0
def tw14238359138657884200:=0
def tw14182836708104905115:=0
def tw17503793066645861363:=0
def tw17855304597182472959:=0
def tw6536767190780298628:=0
def tw11532256338101799594:=0
def tw2571784909917556654:=0
def tw8199834721199248683:=0
def tw12868103669291357928:=0
def tw10591160969943678685:=0
def tw6430810373525837632:=0
def tw18346596770055757319:=0
def tw5469486135515610259:=0
def tw11503394419185864699:=0
def tw12319316478373437797:=0
def tw5828233547192493852:=0
def tw5164088694757457714:=0
def tw9119449864931452293:=0
def tw14694424591834217493:=0
def tw5825504082782385526:=0
def tw16836168243550997484:=0
def tw2001611955349539937:=0
def tw14230467076075690797:=0
def tw5211861944142937268:=0
def tw6723804542677768103:=0
def tw1521276332992843873:=0
def tw14752514884812333190:=0
def tw15662892184070539589:=0
def tw11953108784151680299:=0
def tw7198283947733415539:=0
def tw7014987594947072144:=0
def tw8278614951162308655:=0
def tw6074637426821840716:=0
def tw215779146110437637:=0
def tw10786978338279595259:=0
def tw18062471758834856639:=0
def tw10593029315360291095:=0
def tw1793108832872404734:=0
def tw12509545259738421358:=0
def tw1148441128695265516:=0
def tw11907772590940427197:=0
def tw13715441054657641880:=0
def tw1171526092942471759:=0
def tw17972060651990283154:=0
def tw11129499139928941180:=0
def tw5042650989977207651:=0
def tw6100920048407316643:=0
def tw13053621922072318741:=0
def tw5597574842013196885:=0
def tw444662242149354561:=0
def tw6298546715697291373:=0
def tw6948151810702158185:=0
def tw16058581913515508511:=0
def tw16205436296270347349:=0
def tw11266123661824192302:=0
def tw18234017694377597982:=0
def tw1528723346822587838:=0
def tw14902054530293219462:=0
def tw18352690205488086038:=0
def tw15583141060919066438:=0
def tw5036172725842206649:=0
def tw10470795959877469968:=0
def tw12316594244155394699:=0
def tw3697387212351614401:=0
def tw3785004154762587406:=0
def tw10498574112063014046:=0
def tw10055468380975082709:=0
def tw914393832072469267:=0
def tw193383237622570250:=0
def tw2396661609662050938:=0
def tw5106984523853612211:=0
def tw14875322836172711113:=0
def tw18371669712058266792:=0
def tw11527014116193554533:=0
def tw4258270481559949361:=0
def tw16654080051556681918:=0
def tw10395808162049860331:=0
def tw16671464627360787192:=0
def tw14413470063887049585:=0
def tw17697144545580031128:=0
def tw9511980111718509862:=0
def tw13994101664945601861:=0
def tw16092459607878541644:=0
def tw6726564081636357133:=0
def tw16948927573710009636:=0
def tw7831262254431188080:=0
def tw5177789218682011277:=0
def tw11947842726070622849:=0
def tw15871406589556742122:=0
def tw17108817217813928511:=0
def tw12473105380778471875:=0
def tw10688170572999927544:=0
def tw397278297000002076:=0
def tw5667864545284815158:=0
def tw8852296948973814775:=0
def tw11883858587457838861:=0
def tw13078101151386562791:=0
def tw15466601829046770150:=0
def tw2859816184767513458:=0
def tw5487911171305434534:=0
def tw6333386215138940036:=0
def tw14892189183755272832:=0
def tw5810934905753684069:=0
def tw4877425105188310142:=0
def tw12139883388660196003:=0
def tw15625527171847849705:=0
def tw7013682814608135661:=0
def tw16443162773787693158:=0
def tw12589848979034137354:=0
def tw5267298446917652916:=0
def tw17874357834185237087:=0
def tw2277009594781556740:=0
def tw4622290041376365342:=0
def tw10396924691528211790:=0
def tw7877288799253718010:=0
def tw9790559511848792008:=0
def tw17652844735102028951:=0
def tw910266464867030856:=0
def tw3826301644295134958:=0
def tw15859967579084510566:=0
def tw5858626109753733974:=0
def tw18146382001437904494:=0
def tw5185594737689135029:=0
def tw13247018227548904204:=0
def tw2666074251269296930:=0
def tw13560598716811523567:=0
def tw6345065614862682773:=0
def tw2217575484849308539:=0
def tw17540542024673225274:=0
def tw2314482924299489673:=0
def tw2636066641204337562:=0
def tw7637685368453527175:=0
def tw13635920145480046811:=0
def tw11198243568989700748:=0
def tw18146782863003949300:=0
def tw11922675752541791004:=0
def tw7651521496352697761:=0
def tw16635338889706277717:=0
def tw2619691909772349255:=0
def tw10208915740064565641:=0
def tw8910174378920835857:=0
def tw8553956175485475507:=0
def tw13663661933917521316:=0
def tw2235812877080422899:=0
def tw14206358366177623064:=0
def tw5970635982422831742:=0
def tw17268708915653185838:=0
def tw13396254784206615121:=0
def tw9454850708242111586:=0
def tw8707971649506027684:=0
def tw2098085128314870994:=0
def tw5073235863532811041:=0
def tw10875841533328334903:=0
def tw17672372346770639669:=0
def tw11523345698246084616:=0
def tw11690121290615899099:=0
def tw6892206133566031558:=0
def tw2038039292551287232:=0
def tw15640485070459098416:=0
def tw552953440816322331:=0
def tw17107952505938203507:=0
def tw12826200225807732055:=0
def tw13581361355120542071:=0
def tw13332441093798163968:=0
def tw17925115934499073250:=0
def tw2775548330190671001:=0
def tw15111551922517038280:=0
def tw17963022202624179463:=0
def tw13924156053015692010:=0
def tw14055338651796666077:=0
def tw6876953097522039602:=0
def tw5883904429667025656:=0
def tw17564059299256897080:=0
def tw856855786701108464:=0
def tw7654026472163994670:=0
def tw13330612664163307168:=0
def tw9456042467885108434:=0
def tw10708894659387594556:=0
def tw592189615196624555:=0
def tw681722867309713289:=0
def tw10201422985517611284:=0
def tw6786701608812723050:=0
def tw15871332990758553770:=0
def tw12035777380259693740:=0
def tw770702426970738672:=0
def tw9574606170567645996:=0
def tw6859371288893242435:=0
def tw1070709263011084404:=0
def tw2056898983111365938:=0
def tw7258393842121479309:=0
def tw7962292848442439347:=0
def tw17877548231968635344:=0
def tw17633782921124063891:=0
def tw8182033826713666167:=0
def tw10056659570131393370:=0
def tw3921418934180398550:=0
def tw11373881004519186918:=0
def tw15664586287576148296:=0
def tw1182714465652371832:=0
def tw4507538415563360782:=0
def tw8017172169982630904:=0
def tw9636528883856353885:=0
def tw17925256033303907699:=0
def tw254102851553112637:=0
def tw2499229652548260528:=0
def tw16910521249468588574:=0
def tw3377960029050617910:=0
def tw12597344768462904327:=0
def tw13566029911837536192:=0
def tw14006898410302610280:=0
def tw10072238691712931950:=0
def tw6678684179331601653:=0
def tw2054488109552369726:=0
def tw11285867949125949206:=0
def tw4769477592596005059:=0
def tw14605524789690736321:=0
def tw2279965400276245923:=0
def tw14636263813029920551:=0
def tw14489196569767881846:=0
def tw13735682614109202621:=0
def tw16037331826793399670:=0
def tw7574436277187904846:=0
def tw10442324065690992950:=0
def tw10658900513133006096:=0
def tw3749695211879255884:=0
def tw3025344007820665293:=0
def tw11337813119581408888:=0
def tw1221042207246662951:=0
def tw14333476384737365180:=0
def tw17605077839866774363:=0
def tw856455683030482899:=0
def tw5112885064380490379:=0
def tw3132074573447070042:=0
def tw12599400086924765007:=0
def tw8111342643308309372:=0
def tw7281320621663092349:=0
def tw13077255350436368708:=0
def tw5174031237130481171:=0
def tw17967130358432916291:=0
def tw7183972439516075478:=0
def tw8338679836230323086:=0
def tw14225456279127898182:=0
def tw18385489255226146147:=0
def tw3955100849178483258:=0
def tw18120196476042123402:=0
def tw5207123064987710204:=0
def tw11434806034210563346:=0
def tw10313368460747460978:=0
def tw16119877258940130560:=0
def tw17053169559646192544:=0
def tw4771516536928333068:=0
def tw17269650648732099208:=0
def tw17499975500668611395:=0
def tw1062910938539778538:=0
def tw6163282210919872272:=0
def tw11132784328251268846:=0
def tw7854480397207523947:=0
def tw1758331078706238152:=0
def tw12373239229860256051:=0
def tw9763734540148729561:=0
def tw8442033340198043350:=0
def tw9605349357445267330:=0
def tw13228918191958976480:=0
end PySem.W.Fast
section
open PySem PySem.W
def kqA:Aa PySem.Expr->Aa PySem.Expr
 |some (.Tuple (.Constant (.str s) k p::r) c q)=>some (.Tuple (.Constant (.int (Int.ofNat (s.cps.toList.headD 0))) k p::r) c q)
 |x=>x
def kqB:Stmt->Stmt
 | .Assign tg (.Dict ks vs ps) pt=>.Assign tg (.Dict (ks.map kqA) vs ps) pt
 |x=>x
def Zb2:Aj:={ PySem.Challenge.pw_stuckwire_k62_desk_faults with main:={ PySem.Challenge.pw_stuckwire_k62_desk_faults.main with body:=PySem.Challenge.pw_stuckwire_k62_desk_faults.main.body.modify 59 kqB } }
open_shared Post for Zb2 leaving 0
end
set_option maxHeartbeats 0
namespace FR
open PySem PySem.W PySem.Calls PyProof.Rows
abbrev pK:Aj:=PySem.Challenge.pw_stuckwire_k62_desk_faults
abbrev stF:Stmt:=pK.main.body.getD 59 (.Pass ⟨0,0,0,0⟩)
def exF:Ab Ag×Ab (Aa Ag)×Ab Ag×Pos×Pos:=match stF with | .Assign t (.Dict k v p) q=>(t,k,v,p,q)|_=>([],[],[],⟨0,0,0,0⟩,⟨0,0,0,0⟩)
def Z9u:stF=.Assign exF.1 (.Dict exF.2.1 exF.2.2.1 exF.2.2.2.1) exF.2.2.2.2:=by kernel_rfl
def D0:Obj:={ cls:=.type "dict",data:=.dict #[] }
abbrev tp(a:Ae Ad):Obj:={ cls:=.type "tuple",data:=.seq a }
def oF352:=tp #[.str "give" 661,.int 1 662]
def oF353:=tp #[.str "number" 663]
def oF354:=tp #[.str "stuck" 664,.int 3 665]
def oF355:=tp #[.str "number" 666,.str "bit" 667,.str "number" 668]
def oF356:=tp #[.str "leg" 669,.int 4 670]
def oF357:=tp #[.str "number" 671,.str "bit" 672,.str "bit" 673,.str "number" 674]
def oF358:=tp #[.str "faults" 675,.int 0 676]
def oF359:=tp #[]
def oF360:=tp #[.str "idle" 677,.int 0 678]
def oF361:=tp #[]
def oF362:=tp #[.str "tells" 679,.int 2 680]
def oF363:=tp #[.str "number" 681,.str "bit" 682]
def oF364:=tp #[.str "tells" 683,.int 3 684]
def oF365:=tp #[.str "number" 685,.str "bit" 686,.str "bit" 687]
def oF366:=tp #[.str "lean" 688,.int 0 689]
def oF367:=tp #[]
def TD(P:Params):BT:=(Post.tree_370 P).ins 351 D0
def T0(P:Params):BT:=((((((((((((((((TD P).ins 352 oF352).ins 353 oF353).ins 354 oF354).ins 355 oF355).ins 356 oF356).ins 357 oF357).ins 358 oF358).ins 359 oF359).ins 360 oF360).ins 361 oF361).ins 362 oF362).ins 363 oF363).ins 364 oF364).ins 365 oF365).ins 366 oF366).ins 367 oF367
abbrev stT(t:BT)(n toks:Nat)(os:OsState):SharedT:={ tree:=t,n:=n,life:={ },gens:={ toList:=[] },drawn:={ },toks:=toks,os:=os }
def kw:Nat->Str×Int
 |0=>("give",1)
 |1=>("stuck",3)
 |2=>("leg",4)
 |3=>("faults",0)
 |4=>("idle",0)
 |5=>("tells",2)
 |6=>("tells",3)
 |_=>("lean",0)
def hF(P:Params)(i:Nat):Int:=Builtin.Tuple.tupleHashOf [PyData.keyHash P (kw i).1,(kw i).2]
def al8{P:Nat->Prop}(a:P 0)(b:P 1)(c:P 2)(d:P 3)(e:P 4)(f:P 5)(g:P 6)(h:P 7):∀i,i<8->P i
 |0,_=>a|1,_=>b|2,_=>c|3,_=>d|4,_=>e|5,_=>f|6,_=>g|7,_=>h|n+8,q=>absurd q (by omega)
variable (p:Aj)(b:Ab Stmt)(os:OsState)
abbrev GG(w:Ak)(n:Nat)(s:SharedT){α:Type}(m:Sem α)(r:α)(s':SharedT)(pos':Pos->Pos):Prop:=∀(K:α->Sem Fin) (H:Ad->Sem Fin) (gd:Bool->Bool) (lv:Ab Ad->Ab Ad) (pos:Pos),goT p w 11 (some (.ref 6)) n s ⟨m.wrap K H gd lv,.body b Post.env_1,pos,[topFrame ⟨0,0,0,0⟩]⟩=some (s',⟨K r,.body b Post.env_1,pos' pos,[topFrame ⟨0,0,0,0⟩]⟩)
abbrev S0(w:Ak)(F:Obj->Obj)(t:Nat):SharedT:=stT ((T0 w.params).set 351 F) 368 t os
abbrev GT(w:Ak)(n:Nat)(F:Obj->Obj)(t:Nat){α:Type}(m:Sem α)(r:α)(t':Nat):Prop:=GG p b w n (S0 os w F t) m r (S0 os w F t') id
def Z7I(w:Ak):GG p b w 69 (stT (TD w.params) 352 661 os) (evalPairs (pairTrees exF.2.1 exF.2.2.1 Post.env_1 exF.2.2.2.1)) [(.ref 352,.ref 353),(.ref 354,.ref 355),(.ref 356,.ref 357),(.ref 358,.ref 359),(.ref 360,.ref 361),(.ref 362,.ref 363),(.ref 364,.ref 365),(.ref 366,.ref 367)] (S0 os w (λ_=>D0) 690) (λ_=>exF.2.2.2.1):=by intros;intro _ _ _ _ _;kernel_rfl
def Z9I(w:Ak)(F:Obj->Obj)(t:Nat):∀i,i<8->GT p b os w 1 F t (cRoomFor "hash" [.ref (352+2*i)]) () t:=by apply al8<;>(intros;intro _ _ _ _ _;kernel_rfl)
def Z9H(w:Ak)(F:Obj->Obj)(t:Nat):∀i,i<8->GT p b os w 1 F t (specialOf (.ref (352+2*i)) "__hash__") (some (.builtin "tuple.__hash__")) t:=by apply al8<;>(intros;intro _ _ _ _ _;kernel_rfl)
def Z24(w:Ak)(F:Obj->Obj)(t:Nat):∀i,i<8->GT p b os w 3 F t (eqIsQuiet 8 (.ref (352+2*i))) true t:=by apply al8<;>(intros;intro _ _ _ _ _;kernel_rfl)
def Z9J:∀(w:Ak) (i:Nat),i<8->∀(a:Sem Ad) (F:Obj->Obj) (t:Nat),GT p b os w 20 F t (callSpecialIfBoundUnlessNone? (.ref (352+2*i)) "__hash__" a) (some (.int (hF w.params i) (t+2))) (t+3):=byRow2 "special-get-raises" (λw=>by apply al8<;>(intros;intro _ _ _ _ _;kernel_rfl)) (λw=>by apply al8<;>(intros;intro _ _ _ _ _;kernel_rfl))
def Zc3:∀(w:Ak) (i:Nat),i<8->∀j,j<8->j<i->∀(F:Obj->Obj) (t:Nat),GT p b os w (bif i==6&&j==5 then 20 else 16) F t (eqBool (.ref (352+2*j)) (.ref (352+2*i))) false t:=byRow2 "special-get-raises" (λw=>by apply al8<;>(apply al8<;>(intro h;first|exact absurd h (by decide)|(intros;intro _ _ _ _ _;kernel_rfl)))) (λw=>by apply al8<;>(apply al8<;>(intro h;first|exact absurd h (by decide)|(intros;intro _ _ _ _ _;kernel_rfl))))
def ZaU(P:Params)(X:Obj):((T0 P).set 351 (λ_=>X)).get 351=some X:=by kernel_rfl
def TA(P:Params)(X:Obj):BT:=((T0 P).set 351 (λ_=>X)).set 3 (Obj.putName "FORMS" (PyData.keyHash P "FORMS") (.str "FORMS" 714) (.ref 351))
def Z9G(w:Ak):GG p b w 0 (stT (Post.tree_370 w.params) 351 661 os) (swapsWithSole exF.1 (.Dict exF.2.1 exF.2.2.1 exF.2.2.2.1) exF.2.2.2.2.line Post.env_1) false (stT (Post.tree_370 w.params) 351 661 os) id:=by intros;intro _ _ _ _ _;kernel_rfl
def Z9K(w:Ak)(X:Obj):GG p b w 7 (S0 os w (λ_=>X) 714) (swappedStores exF.1 (.Dict exF.2.1 exF.2.2.1 exF.2.2.2.1) Post.env_1 >>= λx=>assignStores Post.env_1 (.ref 351) x ((assignEach exF.1 Post.env_1).map (·.2))) .next (stT (TA w.params X) 368 715 os) (λ_=>⟨230,0,230,5⟩):=by intros;intro _ _ _ _ _;kernel_rfl
variable (p:Aj)(b:Ab Stmt)(os:OsState)(w:Ak)
def GG.tp{p:Aj}{b:Ab Stmt}{w:Ak}{n:Nat}{s s':SharedT}{α:Type}{m:Sem α}{r:α}{g:Pos->Pos}(h:GG p b w n s m r s' g):Tp ⟨p,w,11,some (.ref 6),b,Post.env_1,⟨0,0,0,0⟩⟩ n m s.abs r s'.abs:=Tp.of_goT λK H gd lv pos=>⟨_,h K H gd lv pos⟩
def eF(P:Params)(i:Nat):DictEntry:=⟨reduceHash (hF P i),.ref (352+2*i),.ref (353+2*i)⟩
def sF(P:Params):Nat->Ae DictEntry
 |0=>#[]
 |i+1=>(sF P i).push (eF P i)
theorem K6(P:Params):∀i,(sF P i).size=i
 |0=>rfl
 |i+1=>by show((sF P i).push _).size=_;rw[Array.size_push,K6 P i]
theorem K7{P:Params}{Q:DictEntry->Prop}:∀i,(∀j,j<i->Q (eF P j))->∀e∈sF P i,Q e
 |0,_=>all_nil
 |i+1,h=>Z72 (K7 i λj hj=>h j (by omega)) (h i (by omega))
abbrev S1(i t:Nat):Ac:=(S0 os w (λ_=>dX (sF w.params i) i) t).abs
def U8(i:Nat)(hi:i<8):Tp ⟨p,w,11,some (.ref 6),b,Post.env_1,⟨0,0,0,0⟩⟩ (24+((1+(3+i*3)+i*(20+3))+4)) (dictSet 351 (.ref (352+2*i)) (.ref (353+2*i))) (S1 os w i (690+3*i)) () (S1 os w (i+1) (690+3*i+3)):=by
 have h:=Tp.dictSetT (z:=⟨p,w,11,some (.ref 6),b,Post.env_1,⟨0,0,0,0⟩⟩) (T:=T0 w.params) (D:=351) (n:=368) (t:=690+3*i) (t':=690+3*i+3) (ep:=i) (es:=sF w.params i) (os:=os) (life:={ }) (gens:={ toList:=[] }) (drawn:={ }) (a:=352+2*i) (v:=.ref (353+2*i)) (h:=reduceHash (hF w.params i)) (ch:=24) (ce:=20) (cq:=3) (ZaU _ _) (by decide) rfl (by rw[K6];exact QaC (show i+1<=8 by omega) (by decide))
  (Tp.pyHash_ref (n:=20) (Z9I p b os w _ _ i hi).tp (Z9H p b os w _ _ i hi).tp λf=>(Z9J p b os w i hi f _ _).tp)
  (K7 i λj hj=>beq_eq_false_iff_ne.mpr λe=>by have e:352+2*j=352+2*i:=Value.ref.inj e;omega) (Z24 p b os w _ _ i hi).tp (K7 i λj hj=>(Z24 p b os w _ _ j (Nat.lt_trans hj hi)).tp)
  (K7 i λj hj=>Tp.mono (by cases (i==6&&j==5)<;>decide) (Zc3 p b os w i hi j (Nat.lt_trans hj hi) hj _ _).tp)
 rw[K6]at h;exact h
def Z6x:Tp ⟨p,w,11,some (.ref 6),b,Post.env_1,⟨0,0,0,0⟩⟩ 1063 (exec stF Post.env_1) (stT (Post.tree_370 w.params) 351 661 os).abs .next (stT (TA w.params (dX (sF w.params 8) 8)) 368 715 os).abs:=by
 rw[Z9u];refine Tp.Assign (c:=1055) (c':=7) (Z9G p b os w).tp ?_ (Z9K p b os w _).tp;have e:(stT (TD w.params) 352 661 os).abs={ (stT (Post.tree_370 w.params) 351 661 os).abs with heap:=(stT (Post.tree_370 w.params) 351 661 os).abs.heap.push { cls:=.type "dict",data:=.dict #[] } }:=congrArg (λh=>Shared.mk h { toList:=[] } { } 661 os) (absHeap_ins (by kernel_rfl));have a:(stT (Post.tree_370 w.params) 351 661 os).abs.heap.objs.size=351:=absHeap_size _ _ _;have l:exF.2.1.length=8:=by kernel_rfl
 have h:=Tp.Dict (z:=⟨p,w,11,some (.ref 6),b,Post.env_1,⟨0,0,0,0⟩⟩) (s:=(stT (Post.tree_370 w.params) 351 661 os).abs) (keys:=exF.2.1) (values:=exF.2.2.1) (pos:=exF.2.2.2.1) (vs:=[(.ref 352,.ref 353),(.ref 354,.ref 355),(.ref 356,.ref 357),(.ref 358,.ref 359),(.ref 360,.ref 361),(.ref 362,.ref 363),(.ref 364,.ref 365),(.ref 366,.ref 367)]) (c:=69) (c':=984) (s₁:=S1 os w 0 690) (s₂:=S1 os w 8 714) (by kernel_rfl) (by kernel_rfl) (by intro h;rw[h]at l;cases l) (by rw[l];decide) (by rw[<- e];exact(Z7I p b os w).tp) ?_
 .rw[a]at h;exact h
 .rw[a];exact Tp.mono (by decide) (Tp.storeAll_cons (U8 p b os w 0 (by decide)) (Tp.storeAll_cons (U8 p b os w 1 (by decide)) (Tp.storeAll_cons (U8 p b os w 2 (by decide)) (Tp.storeAll_cons (U8 p b os w 3 (by decide)) (Tp.storeAll_cons (U8 p b os w 4 (by decide)) (Tp.storeAll_cons (U8 p b os w 5 (by decide)) (Tp.storeAll_cons (U8 p b os w 6 (by decide)) (Tp.storeAll_cons (U8 p b os w 7 (by decide)) (Tp.storeAll_nil)))))))))
def TZ(P:Params)(X:Obj):BT:=(((((((((Post.tree_669 P).set 351 (λ_=>X)).set 352 (λ_=>oF352)).set 354 (λ_=>oF354)).set 356 (λ_=>oF356)).set 358 (λ_=>oF358)).set 360 (λ_=>oF360)).set 362 (λ_=>oF362)).set 364 (λ_=>oF364)).set 366 (λ_=>oF366)
def V9:Ab Stmt:=pK.main.body.drop 60
def Z58(X:Obj)(pos:Pos):segRunT treeTable p w 11 (some (.ref 6)) 1 1600 (stT (TA w.params X) 368 715 os) (piecesOf V9 Post.env_1 (.body b Post.env_1) pos [topFrame ⟨0,0,0,0⟩])=some (.next,stT (TZ w.params X) 631 1066 os,.body b Post.env_1,⟨518,0,524,61⟩):=by kernel_rfl
local macro_rules | `(tactic| walk_at $s) => do
 let k:=s.getString
 if k != "hZ" && k != "KK" && k != "aK" then Lean.Macro.throwUnsupported
 let run (s:String):Ab Nat:=(s.splitOn " ").flatMap fun t=>match t.splitOn "-" with
  |[a,b]=>(List.range (b.toNat!+1)).drop a.toNat!
  |_=>[t.toNat!]
 let os:=run "10000-10002 636 10004-10010 1 637 3-4 7-60 64-108 112-120 188 122-136 141-152 157-168 173-184 189-235 239-316 320-370 30000 20352 378 20354 380 20356 382 20358 384 20360 386 20362 388 20364 390 20366 392-409 415-468 472-552 556-634 638-669"
 let fr:=run "2-3 22 25-31 34-35 38-41 43-44 46-49 51-52 54-57 59-60 62-64 67-69 71-72 74-76 79-81 83-84 86-88 90-91 93-95 98-100 102-103 105-107 109-110 112-114 121-124 127 134-136 139 146-148 151 158-160 163 170-172 175 182-184 187 189-190 192-194 196-197 199-201 203-204 206-208 210-211 213-215 217-218 220-222 225-227 229-230 232-234 236-237 239-241 243-244 246-248 251-254 257-259 262-264 267-269 271-272 274-276 278-279 281-283 285-286 288-290 293-295 298-300 303-305 308-311 313-314 316-318 320-321 323-325 327-328 330-332 334-335 337-339 341-342 344-346 349-368 370-371 373-375 378-380 383-385 387-388 390-392 394-395 397-399 402-404 406-407 409-410 418 420-421 423-425 427-428 430-436 439 441-442 444-446 449-451 453-454 456-458 460-461 463-465 467-468 470-472 474-475 477-479 482-484 487-489 491-492 494-496 498-499 501-503 506-508 510-511 513-515 518-520 523-525 527-528 530-532 534-535 537-539 541-542 544-546 548-549 551-553 556-557 565 567-568 570-572 574-575 577-579 582-584 587-589 592-594 597-599 602-604 607-609 612-614 617-619 622-624 626-627 629-630"
 let P:=Lean.mkIdent `P
 let ob (n : Nat) (X : Lean.Term) : Lean.MacroM Lean.Term := if n = 30000 then pure X else if n ≥ 20000 then pure (Lean.mkIdent (`FR ++ .mkSimple s!"oF{n - 20000}")) else `($(Lean.mkIdent (if n ≥ 10000 then `PySem.W ++ .mkSimple s!"boot_o_{n - 10000}" else `Post ++ .mkSimple s!"o_{n}")) $P)
 let nl (n : Nat) : Lean.MacroM Lean.Term := `(nat_lit $(Lean.Syntax.mkNumLit (toString n)))
 if k = "hZ" then
  let ts <- os.toArray.mapM (ob · (Lean.mkIdent `X))
  `(tactic| exact ⟨⟨[$ts,*]⟩, { }⟩)
 else if k = "aK" then
  let ts <- fr.toArray.mapM nl
  `(tactic| exact [$ts,*])
 else
  let r <- fr.reverse.foldlM (init := <- `([])) fun r a => do `(($(<- nl a), $(<- ob (os.getD a 0) (<- `($(Lean.mkIdent `FR.XZ) $P)))) :: $r)
  `(tactic| exact $r)
def hZ(P:Params)(X:Obj):Ah:=by walk_at "hZ"
def Zbn(P:Params)(X:Obj):absHeap (TZ P X) 631 { }=hZ P X:=by kernel_rfl
def XZ(P:Params):Obj:=dX (sF P 8) 8
abbrev bK:Ab Stmt:=behindTheImports pK
def Z8I:bK=Post.sts_4++(Post.sts_62++(Post.sts_110++(Post.sts_138++(Post.sts_154++(Post.sts_170++(Post.sts_186++(Post.sts_237++(Post.sts_318++([stF]++(V9++[])))))))))):=by kernel_rfl
noncomputable abbrev cK:Code:=.body bK Post.env_1
abbrev q0:Pos:=⟨0,0,0,0⟩
variable (w:Ak)(os:OsState)
abbrev sE:Ac:=(stT (TZ w.params (XZ w.params)) 631 1066 os).abs
abbrev tR(n:Nat)(s:Ac)(t:Thread):Prop:=topRun treeTable pK w 11 (some (.ref 6)) n s t=some (sE w os)
def Z7C:topGo treeTable pK w 11 (some (.ref 6)) 12 ⟨boot_heap w.params,⟨[]⟩,boot_drawn,boot_toks,os⟩ (topStub pK)=some ((stT (Post.tree_4 w.params) 15 187 os).abs,⟨denote treeTable cK,cK,q0,[topFrame q0]⟩):=by kernel_rfl
def Z3x:segRun treeTable pK w 11 (some (.ref 6)) 1 1 (stT (Post.tree_4 w.params) 15 187 os).abs (blockOf bK Post.env_1 cK q0 [topFrame q0])=some (.next,(stT (Post.tree_4 w.params) 15 187 os).abs,cK,q0):=by kernel_rfl
def Z7D:tR w os 2 (sE w os) ⟨doneF .next,cK,⟨518,0,524,61⟩,[topFrame q0]⟩:=by kernel_rfl
def k1(pos:Pos):tR w os (1600+2) (stT (TA w.params (XZ w.params)) 368 715 os).abs (restOf (V9++[]) Post.env_1 cK pos [topFrame q0]):=piece_app (segRun_of (Z58 pK bK os w (XZ w.params) pos)) (piece_nil (Z7D w os))
def k2:tR w os (1063+(1600+2)) (stT (Post.tree_370 w.params) 351 661 os).abs (restOf (stF::(V9++[])) Post.env_1 cK ⟨229,0,229,8⟩ [topFrame q0]):=Z5I (z:=⟨pK,w,11,some (.ref 6),bK,Post.env_1,q0⟩) (Z6x pK bK os w) (k1 w os)
def k3:tR w os (Nat.add 377 (Nat.add 221 (Nat.add 400 (Nat.add 214 (Nat.add 214 (Nat.add 214 (Nat.add 380 (Nat.add 394 (Nat.add 386 (1063+(1600+2))))))))))) (stT (Post.tree_4 w.params) 15 187 os).abs (restOf (Post.sts_4++(Post.sts_62++(Post.sts_110++(Post.sts_138++(Post.sts_154++(Post.sts_170++(Post.sts_186++(Post.sts_237++(Post.sts_318++([stF]++(V9++[]))))))))))) Post.env_1 cK q0 [topFrame q0]):=piece_app (Post._proof_62 w pK bK os) (piece_app (Post._proof_110 w pK bK os) (piece_app (Post._proof_138 w pK bK os) (piece_app (Post._proof_154 w pK bK os) (piece_app (Post._proof_170 w pK bK os) (piece_app (Post._proof_186 w pK bK os) (piece_app (Post._proof_237 w pK bK os) (piece_app (Post._proof_318 w pK bK os) (piece_app (Post._proof_374 w pK bK os) (k2 w os)))))))))
def k4:tR w os (1+Nat.add 377 (Nat.add 221 (Nat.add 400 (Nat.add 214 (Nat.add 214 (Nat.add 214 (Nat.add 380 (Nat.add 394 (Nat.add 386 (1063+(1600+2))))))))))) (stT (Post.tree_4 w.params) 15 187 os).abs ⟨denote treeTable cK,cK,q0,[topFrame q0]⟩:=piece_block (Z3x w os) (by have h:=k3 w os;rw[<- Z8I]at h;exact h)
abbrev MK:Nat:=12+(1+Nat.add 377 (Nat.add 221 (Nat.add 400 (Nat.add 214 (Nat.add 214 (Nat.add 214 (Nat.add 380 (Nat.add 394 (Nat.add 386 (1063+(1600+2)))))))))))
def Z7B:topRun treeTable pK w 11 (some (.ref 6)) MK ⟨boot_heap w.params,⟨[]⟩,boot_drawn,boot_toks,os⟩ (topStub pK)=some ⟨hZ w.params (XZ w.params),⟨[]⟩,{ },1066,os⟩:=(go_top (Z7C w os) (k4 w os)).trans (congrArg some (by show SharedT.abs _=_;unfold SharedT.abs;rw[Zbn]))
def KK:Params->Frag:=λP=>by walk_at "KK"
def asK:Ab Af:=by walk_at "aK"
def qK:Aj:=view pK [1,6,7,8,9,10,11,12,13,15,16,17,18,19,20,22,23,24,25,26,27,28,29,30,32,35,36,37,39,40,41,42,43,44,46,47,48,49,50,51,52,53,54,55,56,57,59,60,61,62,63,64,65,66,68,69,70,71,72,73,74,75,76,78,79,80,81,82,83,84,85,86,87,88,89,90,91,92,93,94,95,96,97,98,99,100,101]
def looseK:Ab Str:=["bits_for","outs_for","tables","out_tables","answers","NUMBERS_BEHIND","FORMS"]
abbrev rK:=PySem.Challenge.rw_stuckwire_k62_desk_faults.row
abbrev sZ(P:Params)(es:Ae DictEntry)(ep:Nat)(os:OsState):Ac:=⟨hZ P (dX es ep),⟨[]⟩,{ },1066,os⟩
abbrev Z61:=importedModules pK.main.body
variable (P:Params)(es:Ae DictEntry)(ep:Nat)(os:OsState)
def ZaJ(w:Ak):((boot_heap w.params).isNs mainGlobals&&(⟨[]⟩:Ae GenState).size==0,(boot_heap w.params).objs.size,(boot_heap w.params).nsMap mainGlobals "__annotations__")=(true,11,some (.ref 6)):=by kernel_rfl
def lk0:(staticsOk Z61 (boot_heap P) (hZ P (dX es ep))&&namesBound pK (hZ P (dX es ep))&&gensDone (sZ P es ep os)&&laidKept (boot_heap P) (hZ P (dX es ep)))=true:=by kernel_rfl
def lk1:seen ((recsOf qK).map (·.name)) (ownsOf qK) [] { (sZ P es ep os)with gens:=#[] }=expectedOf qK:=by kernel_rfl
def lk2:(sZ P es ep os).heap.bltView=bltViewBooted:=by kernel_rfl
def an{a b:Bool}(h:a=true)(k:b=true):(a&&b)=true:=by rw[h,k];rfl
def lk3:((sZ P es ep os).heap.keysOk (looseW qK looseK) ((recsOf qK).map (·.name)) ((litsOf qK).map (·.1)) ((clssOf qK (looseW qK looseK)).map (·.name))&&(sZ P es ep os).heap.accountedOkI Z61&&(sZ P es ep os).heap.isNs mainGlobals&&(sZ P es ep os).heap.isNs builtinsNs&&tablesOk qK (sZ P es ep os).heap&&(xlAt qK [] (sZ P es ep os)&&recOk (RowW.records rK.toRowW) (sZ P es ep os))&&(if true then(sZ P es ep os).gens.size==0 else !leftWithCleanup (sZ P es ep os).gens))=true:=(an (an (an (an (an (an (by kernel_rfl) (by kernel_rfl)) (by kernel_rfl)) (by kernel_rfl)) (by kernel_rfl)) (by kernel_rfl)) (by kernel_rfl))
def lk4:tabsOk qK (sZ P es ep os)=true:=(an (an (an (by kernel_rfl) (by kernel_rfl)) (by kernel_rfl)) (by kernel_rfl))
def lk5:pinSeenD qK (drecsOf qK) (sZ P es ep os)=pinGoodD (drecsOf qK):=by kernel_rfl
def lk6:plainSeenE qK (looseW qK looseK) (sZ P es ep os)=plainGoodE qK (looseW qK looseK):=by kernel_rfl
def lk7:plainSeenD qK looseK (sZ P es ep os)=plainGoodD qK looseK:=by kernel_rfl
def lk8:wideSeen qK (sZ P es ep os)=wideGood qK:=by kernel_rfl
def lk9:clsSeenW qK looseK (sZ P es ep os)=clsGoodW qK looseK:=by kernel_rfl
def asK_eq(P:Params):asK=(KK P).map (·.1):=by kernel_rfl
abbrev HK:Hook:=kHook KK asK asK_eq
def lkK(w:Ak):HK.obs (sZ w.params (sF w.params 8) 8 os)=HK.val w:=by kernel_rfl
def opK:opening pK=plainProg pK.main.scope.names:=by kernel_rfl
def feK(s:Ac):fenceModules? pK s=some s:=by kernel_rfl
def lkS:openSeen qK looseK Z61 (λs=>xlAt qK [] s&&recOk (RowW.records rK.toRowW) s) true (sZ P es ep os)=openGood qK looseK:=by
 unfold openSeen openGood;exact looks_pair (lk1 P es ep os) (looks_pair (lk2 P es ep os) (looks_pair (lk3 P es ep os) (looks_pair (lk4 P es ep os) (looks_pair (lk5 P es ep os) (looks_pair (lk6 P es ep os) (looks_pair (lk7 P es ep os) (looks_pair (lk8 P es ep os) (lk9 P es ep os))))))))
def leftK:LeftO pK qK looseK (λs=>xlAt qK [] s&&recOk (RowW.records rK.toRowW) s) (Hook.obs HK) (Hook.val HK) 9118 :=
 LeftO.of_pieces (H₀:=boot_heap) (H₁:=λP=>hZ P (XZ P)) (gs₀:=⟨[]⟩) (gs₁:=⟨[]⟩) (d₀:=boot_drawn) (d₁:={ }) (k₀:=boot_toks) (k₁:=1066) (m₀:=11) (ann:=some (.ref 6)) (M:=MK) (boot_open opK (by decide) feK) ZaJ Z7B (by decide) (λw=>funext λos=>looks_pair (lk0 w.params _ 8 os) (looks_pair (lkS w.params _ 8 os) (lkK os w)))
end FR
set_option maxHeartbeats 0
namespace G
open PySem PySem.Spec PyProof.Rows L2 PD
def Saa:gN ["self","ins","rows","outs"] ["self","ins","rows","outs"] (aT kE):=Ro
def Sab:gN ["self"] ["self"] (aT nV):=Ro
example:∃x,x=(PySem.Challenge.rw_stuckwire_k62_desk_faults,FR.KK):=by k_fill;exact⟨_,rfl⟩
structure HY(P:Program)(w:World)(K:Frag)(mg:Str->Option Value)(base:Heap)(C CD:Addr):Prop extends HB FR.KK P w K mg base where
 y6:NoAttr K C "ins"
 y8:NoAttr K C "rows"
 yc:NoAttr K C "outs"
 y4:HCl K "Circuit" C kE "Circuit.__init__"
 yd:NoAttr K CD "circuit"
 y9:HCl K "Desk" CD nV "Desk.__init__"
 ye:∃t,mg "FIGURES" = some (.str "0123456789" t)
 yf:∃t,mg "MOST_FIGURES" = some (.int 9 t)
 yg:∃t,mg "MOST_INS" = some (.int 8 t)
 yh:∃t,mg "MOST_OUTS" = some (.int 16 t)
 yu:Z9i K w.params mg "NUMBERS_BEHIND" [("fix",1),("not",1),("and",2),("or",2),("xor",2)]
 yj:∃t,mg "MOST_ROWS" = some (.int 60 t)
 yv:Z9h K P w mg "FORMS" [([.inr "give",.inl 1],["number"]),([.inr "stuck",.inl 3],["number","bit","number"]),([.inr "leg",.inl 4],["number","bit","bit","number"]),([.inr "faults",.inl 0],[]),([.inr "idle",.inl 0],[]),([.inr "tells",.inl 2],["number","bit"]),([.inr "tells",.inl 3],["number","bit","bit"]),([.inr "lean",.inl 0],[])]
 yp:HMe K "say" CD Z8T "Desk.say"
section
variable {P:Aj}{w:Ak}{K:Frag}{mg:Str->Aa Ad}{base:Ah}{C CD:Af}(Y:HY P w K mg base C CD)
include Y
def Z8O:mg "all" = none:=Y.z (by k_is)
def T5:mg "enumerate" = none:=Y.z (by k_is)
def T4:mg "int" = none:=Y.z (by k_is)
def dJ:mg "len" = none:=Y.z (by k_is)
def wT:mg "list" = none:=Y.z (by k_is)
def Z8N:mg "max" = none:=Y.z (by k_is)
def Zaz:mg "min" = none:=Y.z (by k_is)
def eV:mg "range" = none:=Y.z (by k_is)
def Z0E:mg "reversed" = none:=Y.z (by k_is)
def Z4H:mg "sorted" = none:=Y.z (by k_is)
def qB:mg "str" = none:=Y.z (by k_is)
def Z1Q:mg "tuple" = none:=Y.z (by k_is)
def Z1P:mg "zip" = none:=Y.z (by k_is)
def yK:Z0x P w K mg base "Circuit" C 1 3 (iP C):=by
 refine Y.y4.m Y.x (ps:=["self","ins","rows","outs"]) λfA fd F=>?_;have I:=Saa.nd;refine F.raw Saa (λvs H Q E h=>Z1X h) λcdv A outer s H vs Q E hr hsp=>?_;obtain⟨x,dx,J,us,ds,d,fp,rfl,y,n,l,rfl,h1,p,f,q⟩:=hsp;obtain⟨F,hF⟩:=L1 p;have u:=p.length
 match ds,us,h1,u,hF,f with
 |[i,r,o],[u1,u2,u3],_,_,hF,f =>
  unfold iP at f;simp only at f;split at f
  .rename_i a b c t G B;cases f;refine⟨_,nY (yC (pv 0) (show QE _ true [] _ _ from(QE.flat (aA 1))) rfl) (nY (yC (pv 0) (show QE _ true [] _ _ from(cQ (fr:=[]) rfl (by rfl) (bX (aA 2)) (show List.Nodup (["row"]:Ab Str) from by decide +kernel) (by rfl) (λ_ _ _ _ _ _=>cF) (λ_ _ _ _ _ _=>(qp (X3 (by rfl) (Z1Q Y) (aA 0)))))) rfl) (wJ (yC (pv 0) (show QE _ true [] _ _ from(qp (rQ (by rfl) (wT Y) (aA 3)))) rfl))),?_⟩
   refine Zbf (F:=λi=>F (i-1)) (us:=[u1,u2,u3]) (ds:=[i,r,o]) (fp:=fp) y n l (λj ow d' e=>?_) rfl t G B (Y.y4.cl) Y.y6 Y.y8 Y.yc (by decide +kernel) (by decide +kernel) (by decide +kernel) q
   match j,e with
   |1,e=>cases e;exact(let ⟨v,a1,a2⟩:=hF 0 i rfl;⟨v,by cases a1;rfl,a2⟩)
   |2,e=>cases e;exact(let ⟨v,a1,a2⟩:=hF 1 r rfl;⟨v,by cases a1;rfl,a2⟩)
   |3,e=>cases e;exact(let ⟨v,a1,a2⟩:=hF 2 o rfl;⟨v,by cases a1;rfl,a2⟩)
   |0,e=>cases e
   |j+4,e=>cases e
  .cases f
def Z8h:Z0x P w K mg base "Desk" CD 3 0 (yO C CD):=by
 refine Y.y9.m Y.x (ps:=["self"]) λfA fd F=>?_;have r:=Sab.nd;refine F.raw Sab (λvs H Q E h=>Z1X h) λcdv A outer s H vs Q E hr hsp=>?_;obtain⟨x,dx,t,us,ds,d,fp,rfl,p,i,f,rfl,h1,o,b,q⟩:=hsp;obtain rfl:=Qbl h1;have n:=o.length;obtain rfl:=Qbl n;unfold yO at b;simp only at b;split at b
 .rename_i a l;cases b;exact⟨_,wJ (yC (pv 0) (show QE _ true [] _ _ from(Z8Z (yK Y) (hr.mono (by decide)) (.cons (.cons (.cons NArgs.nil))) (aB (QE.weak (qp aE)) (aB (QE.weak (cB (aB (gE (aB (qp aP) (aB (qp aE) aW))) aW))) (aB (QE.weak (cB (aB (qp aE) aW))) (Qn [])))))) rfl),Zbg (F:=λ_=>[]) (env:=[none]) p i f (λj ow d' e=>by match j,e with|0,e=>cases e|j+1,e=>cases e) rfl l (Y.y9.cl) Y.yd q⟩
 .cases b
def zL:aU P w K mg base "_law_at" [] 1 2 (jH C):=Y.c Z9y ["_law_script","_law_k"] λnd hr=>(aF (bN (xX (aA 1) (qp (cL (by rfl) (dJ Y) (aA 0)))) (aG (aQ (QE.flat (aO (aA 0) (aA 1))))) aR)
   (aG (aQ (qp aE))))
def uO:aU P w K mg base "_law_mixed" [] 1 2 (gA C):=Y.c Z3n ["_law_cell","_law_k","_law_number"] λnd hr=>(aF (bN (Z29 (aA 0) (qp (aN Z5O (qp aE) (qp aE)))) (aG (aQ (qp (aN cP (qp (aN dR (qp (aV cW (aA 0) (qp (aN Z5O (qp aE) (qp aE))))) (qp (aN fQ (qp aE) (qp (aN eZ (qp aE) (qp (aN cP (aA 1) (qp aE))))))))) (qp (aN fQ (qp aE) (qp aE))))))) aR)
   (aF (Qs 2 (qp (aN cP (qp (aV dZ (qp (aV dZ (qp (aN eZ (aA 0) (qp aE))) (qp (aN eZ (qp (aN eZ (qp aE) (aA 1))) (aA 1))))) (aA 1))) (qp aE))))
   (aF (Qs 2 (qp (aN cP (qp (aN eZ (aA 2) (aA 2))) (qp aE))))
   (aG (aQ (qp (aN cP (qp (aN eZ (aA 2) (qp aE))) (qp aE))))))))
def Z4p:aU P w K mg base "_law_folds" [] 2 2 (tP C):=Y.c Z3q ["_law_script","_law_many","_law_found","_law_some","_law_k","_law_at_here","_law_left"] λnd hr=>(aF (iM (i:=2) (fr:=[]) rfl nd rfl (Or.inl rfl) (by rfl) (eE (rs:=[]) (by rfl) (eV Y) (aB (Qv 1) (Qn [1]))) (show List.Nodup (["_law_k"]:Ab Str) from by decide +kernel) (by rfl) (λ_ _ _ _ _ _=>cF) (λ_ _ _ _ _ _=>(qp (aV dZ (qp (aN eZ (aA 0) (aA 0))) (qp aE)))))
   (aF (Qs 3 (qp (dQ (aA 0) dU (cV (qp aE)))))
   (aF (dA rfl PassesOwn.never (Z3I (rs:=[]) (by rfl) (eV Y) (aB (QE.weak (qp aE)) (aB (QE.weak (qp (cL (by rfl) (dJ Y) (aA 3)))) (Qn [])))) (Qg 4) (aF (Qs 5 (qp (aN cP (aA 4) (aA 1))))
   (aF (Qs 6 (qp (aV dZ (qp (aN eZ (aO (aA 2) (aA 5)) (qp aE))) (Qc (uO Y) (aB (Rp (aO (aA 3) (aA 4))) (aB (Qv 4) (Qn [3,4])))))))
   (aG (Z2c 2 (aA 5) (qp (aN cP (aA 6) (qp aE))))))))
   (aG (hU (i:=2))))))
def Z4o:aU P w K mg base "_law_input" [] 1 2 (mE C):=Y.c Z3o ["_law_ins","_law_k","_law_total","_law_given"] λnd hr=>(aF (Qs 2 (qp aE))
   (aF (dA rfl PassesOwn.never (eE (rs:=[]) (by rfl) (eV Y) (aB (QE.weak (qp (aN fQ (qp aE) (aA 0)))) (Qn []))) (Qg 3) (aG (bN (cI (bM hr) (qp (aN cP (qp (aN dR (aA 3) (qp (aN fQ (qp aE) (aA 1))))) (qp aE))) (qp aE)) (aG (Qs 2 (qp (aV dZ (aA 2) (qp (aN fQ (qp aE) (aA 3))))))) aR)))
   (aG (aQ (QE.flat (aA 2))))))
def Z6Q:aU P w K mg base "_law_outs" [] 1 2 (yN C):=Y.c Z53 ["_law_all_wires","_law_number","_law_outs_here","_law_k"] λnd hr=>(aF (Qs 2 (cB (aB (qp (aV cW (aA 0) (qp aE))) aW)))
   (aF (dA rfl PassesOwn.never (eE (rs:=[]) (by rfl) (eV Y) (aB (QE.weak (qp (aN cP (aA 1) (qp aE)))) (Qn []))) (Qg 3) (aG (fL 2 (qp (aN cP (qp (aN dR (aA 1) (qp (aV dZ (aA 3) (qp aE))))) (aA 0))))))
   (aF (bN (cI (bM hr) (qp (aN cP (qp (aN dR (aA 1) (qp aE))) (qp aE))) (qp aE)) (aG (mB 2 2 nd rfl (Or.inl rfl) (cQ (fr:=[0,1]) rfl (by rfl) (eE (rs:=[]) (by rfl) (eV Y) (aB (QE.weak (qp (aV cW (qp aE) (qp (cL (by rfl) (dJ Y) (aA 2)))))) (Qn []))) (show List.Nodup (["_law_k","_law_all_wires","_law_number"]:Ab Str) from by decide +kernel) (by rfl) (λ_ _ _ _ _ _=>cF) (λ_ _ _ _ _ _=>(qp (aN cP (qp (aN eZ (aA 0) (aA 2))) (aA 1))))))) aR)
   (aF (bN (cI (bM hr) (qp (aN cP (qp (aN dR (aA 1) (qp aE))) (qp aE))) (qp aE)) (aG (Qs 2 (qp (Z5s (aA 2))))) aR)
   (aG (hU (i:=2)))))))
def Z6P:aU P w K mg base "_law_rows" [] 1 2 (yM C):=Y.c Z52 ["_law_ins","_law_numbers","_law_rows_here","_law_number","_law_at_here","_law_one","_law_two"] λnd hr=>(aF (Qs 2 (cB aW))
   (aF (dA rfl PassesOwn.never (bX (aA 1)) (Qg 3) (aF (Qs 4 (qp (aV dZ (aA 0) (qp (cL (by rfl) (dJ Y) (aA 2))))))
   (aF (Qs 5 (qp (aV cW (qp (aV cW (aA 4) (qp aE))) (qp (aN cP (qp (aN dR (aA 3) (qp aE))) (qp (Z5t rfl (by rfl) (Z8N Y) (aB (QE.weak (qp aE)) (aB (QE.weak (qp (Z9V rfl (by rfl) (Zaz Y) (aB (Qv 4) (aB (QE.weak (qp aE)) (Qn [4])))))) (Qn []))))))))))
   (aF (Qs 6 (qp (aV cW (qp (aV cW (aA 4) (qp aE))) (qp (aN cP (qp (aN dR (aA 3) (qp aE))) (qp (Z5t rfl (by rfl) (Z8N Y) (aB (QE.weak (qp aE)) (aB (Qv 4) (Qn [4]))))))))))
   (aG (bN (QW.qt (xW (cI (bM hr) (aA 4) (qp aE)) (qM (cI (bM hr) (qp (aN cP (aA 3) (qp aE))) (qp aE))))) (aG (fL 2 (gE (aB (qp aP) (aB (qp (aN cP (qp (aN dR (aA 3) (qp aE))) (qp aE))) aW))))) (aG (bN (xX (qp (aN cP (aA 3) (qp aE))) (qp aE)) (aG (fL 2 (gE (aB (qp aP) (aB (QE.flat (aA 5)) aW))))) (aG (fL 2 (gE (aB (QE.flat (aO (QE.weak (rs:=[]) (cB (aB (qp aP) (aB (qp aP) (aB (qp aP) (aB (qp aP) aW)))))) (qp (aN cP (aA 3) (qp aE))))) (aB (QE.flat (aA 5)) (aB (QE.flat (aA 6)) aW))))))))))))))
   (aG (hU (i:=2)))))
def G5:aU P w K mg base "_law_drawn" [] 3 1 (pS C):=Y.c Z3r ["_law_script","_law_first","_law_ins","_law_folds_here","_law_rows_here","_law_outs_here"] λnd hr=>(aF (Qs 1 (Qc (zL Y) (aB (Qv 0) (aB (QE.weak (qp aE)) (Qn [0])))))
   (aF (Qs 2 (QE.flat (aO (QE.weak (rs:=[]) (cB (aB (qp (aN cP (aA 1) (qp aE))) (aB (qp (aN cP (qp (aN dR (aA 1) (qp aE))) (qp aE))) aW)))) (qp (Z2h (by rfl) (T4 Y) (qp (Z91 (bM hr) (qp (aN cP (qp (aN dR (aA 1) (qp aE))) (qp aE))) (qp aE))))))))
   (aF (Qs 3 (Qc (Z4p Y) (aB (Qv 0) (aB (QE.weak (qp aE)) (Qn [0])))))
   (aF (Qs 4 (Qc (Z6P Y) (aB (Qv 2) (aB (QE.weak (qp (dQ (aA 3) dU (cV (qp (aN cP (Qc (zL Y) (aB (Qv 0) (aB (QE.weak (qp aE)) (Qn [0])))) (qp aE))))))) (Qn [2])))))
   (aF (bN (cI (bM hr) (qp (aV dZ (aA 2) (qp (cL (by rfl) (dJ Y) (aA 4))))) (qp aE)) (aG (Qs 4 (cB (aB (gE (aB (qp aP) (aB (qp (aN cP (qp (aN dR (aA 1) (qp aE))) (qp aE))) aW))) aW)))) aR)
   (aF (Qs 5 (Qc (Z6Q Y) (aB (QE.weak (qp (aV dZ (aA 2) (qp (cL (by rfl) (dJ Y) (aA 4)))))) (aB (Rp (aO (aA 3) (qp aE))) (Qn [3])))))
   (aG (Z2b (wH 2 (wH 4 (wH 5 (M0 (cQ (fr:=[2]) rfl (by rfl) (eE (rs:=[]) (by rfl) (eV Y) (aB (Qv 2) (Qn [2]))) (show List.Nodup (["_law_k","_law_ins"]:Ab Str) from by decide +kernel) (by rfl) (λ_ _ _ _ _ _=>cF) (λ_ _ _ _ _ _=>(Qc (Z4o Y) (aB (Qv 1) (aB (Qv 0) (Qn [1,0])))))) Z2e))))))))))))
def Z1I:aU P w K mg base "_law_answer" [] 1 2 (qT C):=Y.c Z0X ["_law_told_outs","_law_given"] λnd hr=>(aG (aQ (cQ (fr:=[1]) rfl (by rfl) (bX (aA 0)) (show List.Nodup (["_law_table","_law_given"]:Ab Str) from by decide +kernel) (by rfl) (λ_ _ _ _ _ _=>cF) (λ_ _ _ _ _ _=>(qp (aN cP (qp (aN dR (aA 0) (qp (aN fQ (qp aE) (aA 1))))) (qp aE)))))))
def oX:aU P w K mg base "_law_answers" [] 2 2 (fV C):=Y.c V3 ["_law_told_outs","_law_tests"] λnd hr=>(aG (aQ (cQ (fr:=[0]) rfl (by rfl) (bX (aA 1)) (show List.Nodup (["_law_given","_law_told_outs"]:Ab Str) from by decide +kernel) (by rfl) (λ_ _ _ _ _ _=>cF) (λ_ _ _ _ _ _=>(Qc (Z1I Y) (aB (Qv 1) (aB (Qv 0) (Qn [1,0]))))))))
def vO:aU P w K mg base "_law_bits_of" [] 1 2 (eU C):=Y.c V2 ["_law_drawn_here","_law_wire"] λnd hr=>(aF (bN (QW.qt (kG (Z29 (aA 1) (aO (aA 0) (qp aE))) (jU (cI (bM hr) (aO (aO (aO (aA 0) (qp aE)) (qp (aV cW (aA 1) (aO (aA 0) (qp aE))))) (qp aE)) (qp aP))))) (aG (aQ (cB (aB (qp (aV cW (qp aE) (aO (aO (aO (aA 0) (qp aE)) (qp (aV cW (aA 1) (aO (aA 0) (qp aE))))) (qp aE)))) aW)))) aR)
   (aG (aQ (cB (aB (qp aE) (aB (qp aE) aW))))))
def Z2R:aU P w K mg base "_law_own" [] 1 2 (pR C):=Y.c Z7x ["_law_drawn_here","_law_wire"] λnd hr=>(aF (bN (QW.qt (xW (xX (aA 1) (aO (aA 0) (qp aE))) (qM (cI (bM hr) (aO (aO (aO (aA 0) (qp aE)) (qp (aV cW (aA 1) (aO (aA 0) (qp aE))))) (qp aE)) (qp aP))))) (aG (aQ (cB aW))) aR)
   (aG (aQ (qp (rQ (by rfl) (wT Y) (qp (dQ (aO (aO (aA 0) (qp aE)) (qp (aV cW (aA 1) (aO (aA 0) (qp aE))))) (cV (qp aE)) dU)))))))
def Z1H:aU P w K mg base "_law_faults" [] 2 1 (qS C):=Y.c Z0W ["_law_drawn_here","_law_wanted","_law_wire","_law_found","_law_own_here","_law_leg_here"] λnd hr=>(aF (Qs 1 (qp (rQ (by rfl) (wT Y) (aO (aA 0) (qp aE)))))
   (aF (dA rfl PassesOwn.never (Z7P (rs:=[]) (by rfl) (eV Y) (by rfl) (Z0E Y) (aB (QE.weak (qp (aV dZ (aO (aA 0) (qp aE)) (qp (cL (by rfl) (dJ Y) (aO (aA 0) (qp aE))))))) (Qn []))) (Qg 2) (aG (bN (Z5m (V8 hr) (aA 2) (aA 1)) (aG (mB 1 1 nd rfl (Or.inl rfl) (Qc (Z2R Y) (aB (Qv 0) (aB (Qv 2) (Qn [0,2])))))) aR)))
   (aF (Qs 3 (cB aW))
   (aF (dA rfl PassesOwn.never (eE (rs:=[]) (by rfl) (eV Y) (aB (QE.weak (qp (aV dZ (aO (aA 0) (qp aE)) (qp (cL (by rfl) (dJ Y) (aO (aA 0) (qp aE))))))) (Qn []))) (Qg 2) (aG (bN (Z5m (V8 hr) (aA 2) (aA 1)) (aF (mB 3 3 nd rfl (Or.inl rfl) (cQ (fr:=[2]) rfl (by rfl) (bX (m1:=true) (rs:=[]) (Qc (vO Y) (aB (Qv 0) (aB (Qv 2) (Qn [0,2]))))) (show List.Nodup (["_law_bit","_law_wire"]:Ab Str) from by decide +kernel) (by rfl) (λ_ _ _ _ _ _=>cF) (λ_ _ _ _ _ _=>(gE (aB (qp aP) (aB (QE.flat (aA 1)) (aB (QE.flat (aA 0)) aW)))))))
   (aF (Qs 4 (Qc (Z2R Y) (aB (Qv 0) (aB (Qv 2) (Qn [0,2])))))
   (aG (dA rfl PassesOwn.never (eE (rs:=[]) (by rfl) (eV Y) (aB (QE.weak (qp (cL (by rfl) (dJ Y) (aA 4)))) (Qn []))) (Qg 5) (aG (mB 3 3 nd rfl (Or.inl rfl) (cQ (fr:=[2,5]) rfl (by rfl) (bX (m1:=true) (rs:=[]) (Qc (vO Y) (aB (Qv 0) (aB (Rp (aO (aA 4) (aA 5))) (Qn [0,4]))))) (show List.Nodup (["_law_bit","_law_wire","_law_leg_here"]:Ab Str) from by decide +kernel) (by rfl) (λ_ _ _ _ _ _=>cF) (λ_ _ _ _ _ _=>(gE (aB (qp aP) (aB (QE.flat (aA 1)) (aB (QE.flat (aA 2)) (aB (QE.flat (aA 0)) aW))))))))))))) aR)))
   (aG (hU (i:=3)))))))
def Z4n:aU P w K mg base "_law_pairs" [] 1 2 (tO C):=Y.c Z3m ["_law_tests","_law_told_bits","_law_words","_law_k"] λnd hr=>(aF (Qs 2 (cB (aB (qp aP) aW)))
   (aF (dA rfl PassesOwn.never (eE (rs:=[]) (by rfl) (eV Y) (aB (QE.weak (qp (cL (by rfl) (dJ Y) (aA 0)))) (Qn []))) (Qg 3) (aG (mB 2 2 nd rfl (Or.inl rfl) (cB (aB (qp (mS (by rfl) (qB Y) (aO (aA 0) (aA 3)))) (aB (qp (kW (qp aP) (cQ (fr:=[]) rfl (by rfl) (bX (aO (aA 1) (aA 3))) (show List.Nodup (["_law_bit"]:Ab Str) from by decide +kernel) (by rfl) (λ_ _ _ _ _ _=>cF) (λ_ _ _ _ _ _=>(qp (mS (by rfl) (qB Y) (aA 0))))))) aW))))))
   (aG (aQ (qp (kW (qp aP) (aA 2)))))))
def nN:aU P w K mg base "bits_to_stick" [] 1 2 (cE C):=Y.c vW ["circuit","wire"] λnd hr=>(aF (bN (QW.qt (kG (Z29 (aA 1) (eL (Y.y4.cl) Y.y6 (aA 0))) (jU (cI (bM hr) (aO (aO (eL (Y.y4.cl) Y.y8 (aA 0)) (qp (aV cW (aA 1) (eL (Y.y4.cl) Y.y6 (aA 0))))) (qp aE)) (qp aP))))) (aG (aQ (cB (aB (qp (aV cW (qp aE) (aO (aO (eL (Y.y4.cl) Y.y8 (aA 0)) (qp (aV cW (aA 1) (eL (Y.y4.cl) Y.y6 (aA 0))))) (qp aE)))) aW)))) aR)
   (aG (aQ (cB (aB (qp aE) (aB (qp aE) aW))))))
def vN:aU P w K mg base "leg_wires" [] 1 1 (eT C):=Y.c V1 ["row"] λnd hr=>(aF (bN (cI (bM hr) (aO (aA 0) (qp aE)) (qp aP)) (aG (aQ (cB aW))) aR)
   (aG (aQ (qp (rQ (by rfl) (wT Y) (qp (dQ (aA 0) (cV (qp aE)) dU)))))))
def sN:aU P w K mg base "sources_of" [] 2 2 (eI C):=Y.c J7 ["circuit","wire"] λnd hr=>(aF (bN (xX (aA 1) (eL (Y.y4.cl) Y.y6 (aA 0))) (aG (aQ (cB aW))) aR)
   (aG (aQ (Qc (vN Y) (aB (QE.more (aO (eL (Y.y4.cl) Y.y8 (aA 0)) (qp (aV cW (aA 1) (eL (Y.y4.cl) Y.y6 (aA 0))))) (by simp)) (Qn [0]))))))
def Z6O:aU P w K mg base "needed" [] 3 1 (yL C):=Y.c Z50 ["circuit","marked","out","wire","source"] λnd hr=>(aF (Qs 1 Z5v)
   (aF (dA rfl PassesOwn.never (bX (eL (Y.y4.cl) Y.yc (aA 0))) (Qg 2) (aG (Z2d (Z2D hr) 1 (aA 2) (qp rR))))
   (aF (dA rfl PassesOwn.never (Z3H (rs:=[]) (by rfl) (eV Y) (aB (QE.weak (qp (aV cW (qp (aV dZ (eL (Y.y4.cl) Y.y6 (aA 0)) (qp (cL (by rfl) (dJ Y) (eL (Y.y4.cl) Y.y8 (aA 0)))))) (qp aE)))) (aB (QE.weak (qp (aV cW (eL (Y.y4.cl) Y.y6 (aA 0)) (qp aE)))) (aB (QE.weak (qp M5)) (Qn []))))) (Qg 3) (aG (bN (Z9N (Z2D hr) (aA 3) (aA 1)) (aG (dA rfl PassesOwn.never (bX (m1:=true) (rs:=[]) (Qc (sN Y) (aB (Qv 0) (aB (Qv 3) (Qn [0,3]))))) (Qg 4) (aG (Z2d (Z2D hr) 1 (aA 4) (qp rR))))) aR)))
   (aG (aQ (qp (Z5q rfl (by rfl) (Z4H Y) (aA 1))))))))
def nH:aU P w K mg base "all_faults" [] 4 1 (fF C):=Y.c K5 ["circuit","faults","wire","bit","leg","source"] λnd hr=>(aF (Qs 1 (cB aW))
   (aF (dA rfl PassesOwn.never (bX (m1:=true) (rs:=[]) (Qc (Z6O Y) (aB (Qv 0) (Qn [0])))) (Qg 2) (aF (dA rfl PassesOwn.never (bX (m1:=true) (rs:=[]) (Qc (nN Y) (aB (Qv 0) (aB (Qv 2) (Qn [0,2]))))) (Qg 3) (aG (fL 1 (gE (aB (qp aP) (aB (QE.flat (aA 2)) (aB (QE.flat (aA 3)) aW)))))))
   (aG (dA rfl PassesOwn.never (Z7Q (m1:=true) (rs:=[]) (by rfl) (T5 Y) (aB (Qc (sN Y) (aB (Qv 0) (aB (Qv 2) (Qn [0,2])))) aW)) (xY (is:=[4,5]) rfl (dL (dH (i:=4) nd rfl (Or.inl rfl)) (dL (dH (i:=5) nd rfl (Or.inl rfl)) mU)) rfl) (aG (dA rfl PassesOwn.never (bX (m1:=true) (rs:=[]) (Qc (nN Y) (aB (Qv 0) (aB (Qv 5) (Qn [0,5]))))) (Qg 3) (aG (fL 1 (gE (aB (qp aP) (aB (QE.flat (aA 2)) (aB (QE.flat (aA 4)) (aB (QE.flat (aA 3)) aW)))))))))))))
   (aG (hU (i:=1)))))
def B8:aU P w K mg base "fault_shown" [] 1 1 (lI C):=Y.c A0 ["fault"] λnd hr=>(aF (bN (L8 (aA 0)) (aG (aQ (qp aP))) aR)
   (aG (aQ (qp (kW (qp aP) (cQ (fr:=[]) rfl (by rfl) (bX (m1:=true) (rs:=[]) (qp (dQ (aA 0) (cV (qp aE)) dU))) (show List.Nodup (["number"]:Ab Str) from by decide +kernel) (by rfl) (λ_ _ _ _ _ _=>cF) (λ_ _ _ _ _ _=>(qp (mS (by rfl) (qB Y) (aA 0))))))))))
def oY:aU P w K mg base "faults_shown" [] 2 1 (fW C):=Y.c xN ["faults"] λnd hr=>(aF (bN (cI (bM hr) (aA 0) (cB (Qn []))) (aG (aQ (qp aP))) aR)
   (aG (aQ (qp (kW (qp aP) (cQ (fr:=[]) rfl (by rfl) (bX (aA 0)) (show List.Nodup (["fault"]:Ab Str) from by decide +kernel) (by rfl) (λ_ _ _ _ _ _=>cF) (λ_ _ _ _ _ _=>(Qc (B8 Y) (aB (Qv 0) (Qn [0]))))))))))
def Z0n:aU P w K mg base "differing" [] 1 2 (oJ C):=Y.c V5 ["one_tables","other_tables","found","one","other"] λnd hr=>(aF (Qs 2 (qp aE))
   (aF (dA rfl PassesOwn.never (Z2f (t:=false) (rs:=[0,1]) (by rfl) (Z1P Y) (aB (Qv 0) (aB (Qv 1) (Qn [0,1])))) (xY (is:=[3,4]) rfl (dL (dH (i:=3) nd rfl (Or.inl rfl)) (dL (dH (i:=4) nd rfl (Or.inl rfl)) mU)) rfl) (aG (Qs 2 (qp (aV X8 (aA 2) (qp (aV Z18 (aA 3) (aA 4))))))))
   (aG (aQ (QE.flat (aA 2))))))
def Z4s:aU P w K mg base "at_outs" [] 1 2 (tS C):=Y.c Z3v ["circuit","values"] λnd hr=>(aG (aQ (cQ (fr:=[1]) rfl (by rfl) (bX (eL (Y.y4.cl) Y.yc (aA 0))) (show List.Nodup (["out","values"]:Ab Str) from by decide +kernel) (by rfl) (λ_ _ _ _ _ _=>cF) (λ_ _ _ _ _ _=>(QE.flat (aO (aA 1) (aA 0)))))))
def Q9:aU P w K mg base "gate_value" [] 1 3 (fE C):=Y.c K2 ["row","legs","ones","kind"] λnd hr=>(aF (Qs 3 (QE.flat (aO (aA 0) (qp aE))))
   (aF (bN (cI (bM hr) (aA 3) (qp aP)) (aG (aQ (qp (aN eZ (aA 2) (aO (aA 0) (qp aE)))))) aR)
   (aF (bN (cI (bM hr) (aA 3) (qp aP)) (aG (aQ (qp (aV Z18 (aA 2) (aO (aA 1) (qp aE)))))) aR)
   (aF (bN (cI (bM hr) (aA 3) (qp aP)) (aG (aQ (qp (aV N1 (aO (aA 1) (qp aE)) (aO (aA 1) (qp aE)))))) aR)
   (aF (bN (cI (bM hr) (aA 3) (qp aP)) (aG (aQ (qp (aV X8 (aO (aA 1) (qp aE)) (aO (aA 1) (qp aE)))))) aR)
   (aG (aQ (qp (aV Z18 (aO (aA 1) (qp aE)) (aO (aA 1) (qp aE)))))))))))
def Q7:aU P w K mg base "leg_values" [] 2 5 (eJ C):=Y.c K0 ["row","wire","values","ones","fault","legs"] λnd hr=>(aF (iM (i:=5) (fr:=[2]) rfl nd rfl (Or.inl rfl) (by rfl) (bX (m1:=true) (rs:=[]) (Qc (vN Y) (aB (Qv 0) (Qn [0])))) (show List.Nodup (["source","values"]:Ab Str) from by decide +kernel) (by rfl) (λ_ _ _ _ _ _=>cF) (λ_ _ _ _ _ _=>(QE.flat (aO (aA 1) (aA 0)))))
   (aF (bN (QW.qt (kG (rO (aA 4)) (kG (cI (bM hr) (aO (aA 4) (qp aE)) (qp aP)) (jU (cI (bM hr) (aO (aA 4) (qp aE)) (aA 1)))))) (aG (Z2c 5 (aO (aA 4) (qp aE)) (qp (aN eZ (aA 3) (aO (aA 4) (qp aE)))))) aR)
   (aG (hU (i:=5)))))
def G3:aU P w K mg base "on_wire" [] 1 4 (fZ C):=Y.c Z3i ["value","wire","ones","fault"] λnd hr=>(aF (bN (QW.qt (kG (rO (aA 3)) (kG (cI (bM hr) (aO (aA 3) (qp aE)) (qp aP)) (jU (cI (bM hr) (aO (aA 3) (qp aE)) (aA 1)))))) (aG (aQ (qp (aN eZ (aA 2) (aO (aA 3) (qp aE)))))) aR)
   (aG (aQ (QE.flat (aA 0)))))
def Z8G:aU P w K mg base "borne" [] 3 4 (O0 C):=Y.c Z7A ["circuit","starts","ones","fault","values","start","row","wire","legs"] λnd hr=>(aF (Qs 4 (cB aW))
   (aF (dA rfl PassesOwn.never (bX (aA 1)) (Qg 5) (aG (fL 4 (Qc (G3 Y) (aB (Qv 5) (aB (QE.weak (qp (cL (by rfl) (dJ Y) (aA 4)))) (aB (Qv 2) (aB (Qv 3) (Qn [5,2,3])))))))))
   (aF (dA rfl PassesOwn.never (bX (eL (Y.y4.cl) Y.y8 (aA 0))) (Qg 6) (aF (Qs 7 (qp (cL (by rfl) (dJ Y) (aA 4))))
   (aF (Qs 8 (Qc (Q7 Y) (aB (Qv 6) (aB (Qv 7) (aB (Qv 4) (aB (Qv 2) (aB (Qv 3) (Qn [6,7,4,2,3]))))))))
   (aG (fL 4 (Qc (G3 Y) (aB (QE.weak (Qc (Q9 Y) (aB (Qv 6) (aB (Qv 8) (aB (Qv 2) (Qn [6,8,2])))))) (aB (Qv 7) (aB (Qv 2) (aB (Qv 3) (Qn [7,2,3])))))))))))
   (aG (hU (i:=4))))))
def sR:aU P w K mg base "full_table" [] 1 1 (iA C):=Y.c K3 ["ins"] λnd hr=>(aG (aQ (qp (aV cW (qp (aN fQ (qp aE) (qp (aN fQ (qp aE) (aA 0))))) (qp aE)))))
def zM:aU P w K mg base "input_tables" [] 2 1 (kL C):=Y.c xM ["ins","found","k","width"] λnd hr=>(aF (Qs 1 (cB aW))
   (aF (dA rfl PassesOwn.never (eE (rs:=[]) (by rfl) (eV Y) (aB (Qv 0) (Qn [0]))) (Qg 2) (aF (Qs 3 (qp (aN fQ (qp aE) (aA 2))))
   (aF (iM (i:=1) (fr:=[3]) rfl nd rfl (Or.inl rfl) (by rfl) (bX (aA 1)) (show List.Nodup (["table","width"]:Ab Str) from by decide +kernel) (by rfl) (λ_ _ _ _ _ _=>cF) (λ_ _ _ _ _ _=>(qp (aV X8 (aA 0) (qp (aN fQ (aA 0) (aA 1)))))))
   (aG (fL 1 (qp (aN fQ (Qc (sR Y) (aB (Qv 2) (Qn [2]))) (aA 3))))))))
   (aG (hU (i:=1)))))
def Z6N:aU P w K mg base "tables" [] 4 2 (rT C)/\aU P w K mg base "tables" [.non] 4 2 (rT C):=Y.d Z4X ["circuit","fault"] λnd hr=>(aG (aQ (Qc (Z8G Y) (aB (Qv 0) (aB (QE.weak (Qc (zM Y) (aB (Rp (eL (Y.y4.cl) Y.y6 (aA 0))) (Qn [0])))) (aB (QE.weak (Qc (sR Y) (aB (Rp (eL (Y.y4.cl) Y.y6 (aA 0))) (Qn [0])))) (aB (Qv 1) (Qn [0,1]))))))))
def nG:aU P w K mg base "out_tables" [] 5 2 (fD C)/\aU P w K mg base "out_tables" [.non] 5 2 (fD C):=Y.d J9 ["circuit","fault"] λnd hr=>(aG (aQ (Qc (Z4s Y) (aB (Qv 0) (aB (QE.weak (Qc (Z6N Y).1 (aB (Qv 0) (aB (Qv 1) (Qn [0,1]))))) (Qn [0]))))))
def Z1E:aU P w K mg base "tellings" [] 6 2 (qP C):=Y.c Z0T ["circuit","faults","good"] λnd hr=>(aF (Qs 2 (Qc (nG Y).2 (aB (Qv 0) (Qn [0]))))
   (aG (aQ (cQ (fr:=[2,0]) rfl (by rfl) (bX (aA 1)) (show List.Nodup (["fault","good","circuit"]:Ab Str) from by decide +kernel) (by rfl) (λ_ _ _ _ _ _=>cF) (λ_ _ _ _ _ _=>(Qc (Z0n Y) (aB (Qv 1) (aB (QE.weak (Qc (nG Y).1 (aB (Qv 2) (aB (Qv 0) (Qn [2,0]))))) (Qn [1])))))))))
def Zat:aU P w K mg base "idle" [] 7 1 (N9 C):=Y.c Z9z ["circuit","faults"] λnd hr=>(aF (Qs 1 (Qc (nH Y) (aB (Qv 0) (Qn [0]))))
   (aG (aQ (Z5w (fr:=[]) rfl (by rfl) (Z2f (t:=false) (rs:=[1]) (by rfl) (Z1P Y) (aB (Qv 1) (aB (QE.weak (Qc (Z1E Y) (aB (Qv 0) (aB (Qv 1) (Qn [0,1]))))) (Qn [1])))) (show List.Nodup (["fault","told"]:Ab Str) from by decide +kernel) (by rfl) (by rfl) (λ_ _ _ _ _ _=>wF (cI (bM hr) (aA 1) (qp aE))) (λ_ _ _ _ _ _=>(QE.flat (aA 0)))))))
def Q8:aU P w K mg base "hold_given" [] 1 2 (jX C):=Y.c K1 ["circuit","given"] λnd hr=>(aG (bN (uY (bM hr) (qp (aN Z5N (aA 1) (eL (Y.y4.cl) Y.y6 (aA 0)))) (qp aE)) (aG bY) aR))
def Z4r:aU P w K mg base "bits_at" [] 1 2 (tQ C):=Y.c Z3u ["found","given"] λnd hr=>(aG (aQ (cQ (fr:=[1]) rfl (by rfl) (bX (aA 0)) (show List.Nodup (["table","given"]:Ab Str) from by decide +kernel) (by rfl) (λ_ _ _ _ _ _=>cF) (λ_ _ _ _ _ _=>(qp (aV N1 (qp (aN Z5N (aA 0) (aA 1))) (qp aE)))))))
def Z4t:aU P w K mg base "answers" [] 6 3 (mG C)/\aU P w K mg base "answers" [.non] 6 3 (mG C):=Y.d Z3w ["circuit","tests","fault","found"] λnd hr=>(aF (Qs 3 (Qc (nG Y).1 (aB (Qv 0) (aB (Qv 2) (Qn [0,2])))))
   (aG (aQ (cQ (fr:=[3]) rfl (by rfl) (bX (aA 1)) (show List.Nodup (["test","found"]:Ab Str) from by decide +kernel) (by rfl) (λ_ _ _ _ _ _=>cF) (λ_ _ _ _ _ _=>(Qc (Z4r Y) (aB (Qv 1) (aB (Qv 0) (Qn [1,0])))))))))
def sQ:aU P w K mg base "good_and_faults" [] 5 1 (hV C):=Y.c rM ["circuit"] λnd hr=>(aG (aQ (xZ (cB (aB (qp qN) aW)) (Qc (nH Y) (aB (Qv 0) (Qn [0]))))))
def Z8F:aU P w K mg base "named" [] 7 3 (N8 C):=Y.c Z7w ["circuit","tests","told"] λnd hr=>(aG (aQ (cQ (fr:=[2,0,1]) rfl (by rfl) (bX (m1:=true) (rs:=[]) (Qc (sQ Y) (aB (Qv 0) (Qn [0])))) (show List.Nodup (["fault","told","circuit","tests"]:Ab Str) from by decide +kernel) (by rfl) (λ_ _ _ _ _ _=>wF (cI (bM hr) (Qc (Z4t Y).1 (aB (Qv 2) (aB (Qv 3) (aB (Qv 0) (Qn [2,3,0]))))) (aA 1))) (λ_ _ _ _ _ _=>(QE.flat (aA 0))))))
def B4:aU P w K mg base "named_shown" [] 8 3 (iV C):=Y.c zW ["circuit","tests","told","given","bits"] λnd hr=>(aF (dA rfl PassesOwn.never (Z2f (t:=false) (rs:=[1,2]) (by rfl) (Z1P Y) (aB (Qv 1) (aB (Qv 2) (Qn [1,2])))) (xY (is:=[3,4]) rfl (dL (dH (i:=3) nd rfl (Or.inl rfl)) (dL (dH (i:=4) nd rfl (Or.inl rfl)) mU)) rfl) (aF (Z7O (Qc (Q8 Y) (aB (Qv 0) (aB (Qv 3) (Qn [0,3])))))
   (aG (bN (uY (bM hr) (qp (cL (by rfl) (dJ Y) (aA 4))) (qp (cL (by rfl) (dJ Y) (eL (Y.y4.cl) Y.yc (aA 0))))) (aG bY) aR))))
   (aG (aQ (Qc (oY Y) (aB (QE.weak (Qc (Z8F Y) (aB (Qv 0) (aB (Qv 1) (aB (Qv 2) (Qn [0,1,2])))))) (Qn []))))))
def Z6R:aU P w K mg base "answer" [] 9 2 (jC C):=Y.c Z56 ["circuit","asked"] λnd hr=>(aF (bN (cI (bM hr) (aO (aA 1) (qp aE)) (qp aP)) (aG bY) aR)
   (aF (bN (cI (bM hr) (aO (aA 1) (qp aE)) (qp aP)) (aG bY) aR)
   (aF (bN (cI (bM hr) (aO (aA 1) (qp aE)) (qp aP)) (aG (aQ (Qc (B4 Y) (aB (Qv 0) (aB (Rp (aO (aA 1) (qp aE))) (aB (Rp (aO (aA 1) (qp aE))) (Qn [0,1]))))))) aR)
   (aF (bN (cI (bM hr) (aO (aA 1) (qp aE)) (qp aP)) (aG (aQ (Qc (oY Y) (aB (QE.weak (Qc (Zat Y) (aB (Qv 0) (Qn [0])))) (Qn []))))) aR)
   (aG (aQ (qp (mS (by rfl) (qB Y) (qp (cL (by rfl) (dJ Y) (Qc (nH Y) (aB (Qv 0) (Qn [0])))))))))))))
def vP:aU P w K mg base "is_number" [] 1 1 (kX C):=let ⟨_,ye⟩:=Y.ye;let ⟨_,yf⟩:=Y.yf;Y.c V4 ["word"] λnd hr=>(aF (bN (QW.qt (xW (cI (bM hr) (aA 0) (qp aP)) (qM (Z28 (qp (cL (by rfl) (dJ Y) (aA 0))) (qp (wI (by rfl) yf)))))) (aG (aQ (qp rR))) aR)
   (aF (bN (QW.qt (kG (cI (bM hr) (aO (aA 0) (qp aE)) (qp aP)) (jU (uY (bM hr) (aA 0) (qp aP))))) (aG (aQ (qp rR))) aR)
   (aG (aQ (qp (Z5x rfl (by rfl) (Z8O Y) (cQ (fr:=[]) rfl (by rfl) (Z13 (aA 0)) (show List.Nodup (["sign"]:Ab Str) from by decide +kernel) (by rfl) (λ_ _ _ _ _ _=>cF) (λ_ _ _ _ _ _=>(qp (Z90 (V8 hr) (aA 0) (qp (Z7T (by rfl) ye))))))))))))
def jO:aU P w K mg base "numbers_below" [] 2 2 (fI C):=Y.c vT ["words","bound","numbers","word","number"] λnd hr=>(aF (Qs 2 (cB aW))
   (aF (dA rfl PassesOwn.never (bX (aA 0)) (Qg 3) (aF (bN (Z12 (Z11 (Qc (vP Y) (aB (Qv 3) (Qn [3]))))) (aG bY) aR)
   (aF (Qs 4 (qp (M6 (by rfl) (T4 Y) (aA 3))))
   (aF (bN (Z29 (aA 4) (aA 1)) (aG bY) aR)
   (aG (fL 2 (QE.flat (aA 4))))))))
   (aG (hU (i:=2)))))
def Z1G:aU P w K mg base "read_ins" [] 3 1 (qR C):=let ⟨_,yg⟩:=Y.yg;Y.c Z0V ["line","words"] λnd hr=>(aF (Qs 1 (qp (rP (aA 0) (qp aP))))
   (aF (bN (QW.qt (xW (uY (bM hr) (aO (aA 1) (qp aE)) (qp aP)) (qM (uY (bM hr) (qp (cL (by rfl) (dJ Y) (aA 1))) (qp aE))))) (aG bY) aR)
   (aG (aQ (QE.flat (aO (QE.weak (rs:=[]) (Qc (jO Y) (aB (QE.weak (qp (dQ (aA 1) (cV (qp aE)) dU))) (aB (QE.weak (qp (aV dZ (qp (wI (by rfl) yg)) (qp aE)))) (Qn []))))) (qp aE)))))))
def Z0m:aU P w K mg base "read_outs" [] 3 2 (oI C):=let ⟨_,yh⟩:=Y.yh;Y.c U9 ["line","wires","words"] λnd hr=>(aF (Qs 2 (qp (rP (aA 0) (qp aP))))
   (aF (bN (uY (bM hr) (aO (aA 2) (qp aE)) (qp aP)) (aG bY) aR)
   (aF (bN (QW.qt (xW (xX (qp (cL (by rfl) (dJ Y) (aA 2))) (qp aE)) (qM (Z28 (qp (aV cW (qp (cL (by rfl) (dJ Y) (aA 2))) (qp aE))) (qp (wI (by rfl) yh)))))) (aG bY) aR)
   (aG (aQ (Qc (jO Y) (aB (QE.weak (qp (dQ (aA 2) (cV (qp aE)) dU))) (aB (Qv 1) (Qn [1])))))))))
def Z1F:aU P w K mg base "read_row" [] 3 2 (qQ C):=Y.c Z0U ["line","wire","words","kind","bound"] λnd hr=>(aF (Qs 2 (qp (rP (aA 0) (qp aP))))
   (aF (Qs 3 (QE.flat (aO (aA 2) (qp aE))))
   (aF (bN (uY (bM hr) (qp (Z7V Y.yu (by rfl) (aA 3))) (qp (aV cW (qp (cL (by rfl) (dJ Y) (aA 2))) (qp aE)))) (aG bY) aR)
   (aF (Qs 4 (Z5u (cI (bM hr) (aA 3) (qp aP)) (qp aE) (QE.flat (aA 1))))
   (aG (aQ (qp (X3 (by rfl) (Z1Q Y) (xZ (cB (aB (QE.flat (aA 3)) aW)) (Qc (jO Y) (aB (QE.weak (qp (dQ (aA 2) (cV (qp aE)) dU))) (aB (Qv 4) (Qn [4])))))))))))))
def Zas:aU P w K mg base "read" [] 4 1 (N7 C):=let ⟨_,yj⟩:=Y.yj;Y.c Z9x ["lines","ins","rows","line"] λnd hr=>(aF (bN (xX (qp (cL (by rfl) (dJ Y) (aA 0))) (qp aE)) (aG bY) aR)
   (aF (bN (Z28 (qp (aV cW (qp (cL (by rfl) (dJ Y) (aA 0))) (qp aE))) (qp (wI (by rfl) yj))) (aG bY) aR)
   (aF (Qs 1 (Qc (Z1G Y) (aB (Rp (aO (aA 0) (qp aE))) (Qn [0]))))
   (aF (Qs 2 (cB aW))
   (aF (dA rfl PassesOwn.never (bX (m1:=true) (rs:=[]) (qp (dQ (aA 0) (cV (qp aE)) (cV (qp M5))))) (Qg 3) (aG (fL 2 (Qc (Z1F Y) (aB (Qv 3) (aB (QE.weak (qp (aV dZ (aA 1) (qp (cL (by rfl) (dJ Y) (aA 2)))))) (Qn [3])))))))
   (aG (aQ (Z8Z (yK Y) (hr.mono (by decide)) (.cons (.cons (.cons NArgs.nil))) (aB (Qv 1) (aB (Qv 2) (aB (QE.weak (Qc (Z0m Y) (aB (Rp (aO (aA 0) (qp M5))) (aB (QE.weak (qp (aV dZ (aA 1) (qp (cL (by rfl) (dJ Y) (aA 2)))))) (Qn [0]))))) (Qn [1,2]))))))))))))
def wB:aU P w K mg base "circuit_lines" [] 1 1 (jI C):=Y.c vV ["words","lines","word"] λnd hr=>(aF (bN (cI (bM hr) (aA 0) (cB (Qn []))) (aG bY) aR)
   (aF (Qs 1 (cB (aB (cB aW) aW)))
   (aF (dA rfl PassesOwn.never (bX (aA 0)) (Qg 2) (aG (bN (cI (bM hr) (aA 2) (qp aP)) (aG (fL 1 (cB aW))) (aG (Z3F (m1:=true) (rs1:=[]) 1 (qp M5) (QE.flat (aA 2)))))))
   (aG (aQ (cQ (fr:=[]) rfl (by rfl) (bX (aA 1)) (show List.Nodup (["line"]:Ab Str) from by decide +kernel) (by rfl) (λ_ _ _ _ _ _=>cF) (λ_ _ _ _ _ _=>(qp (kW (qp aP) (aA 0))))))))))
def Z4q:aU P w K mg base "bits_of" [] 1 1 (pT C):=Y.c Z3t ["word"] λnd hr=>(aF (bN (Z12 (Z11 (qp (Z5x rfl (by rfl) (Z8O Y) (cQ (fr:=[]) rfl (by rfl) (Z13 (aA 0)) (show List.Nodup (["sign"]:Ab Str) from by decide +kernel) (by rfl) (λ_ _ _ _ _ _=>cF) (λ_ _ _ _ _ _=>(qp (Z90 (V8 hr) (aA 0) (qp aP))))))))) (aG bY) aR)
   (aG (aQ (cQ (fr:=[]) rfl (by rfl) (Z13 (aA 0)) (show List.Nodup (["sign"]:Ab Str) from by decide +kernel) (by rfl) (λ_ _ _ _ _ _=>cF) (λ_ _ _ _ _ _=>(qp (M6 (by rfl) (T4 Y) (aA 0))))))))
def vM:aU P w K mg base "number_of" [] 2 1 (jB C):=Y.c V0 ["word"] λnd hr=>(aF (bN (Z12 (Z11 (Qc (vP Y) (aB (Qv 0) (Qn [0]))))) (aG bY) aR)
   (aG (aQ (qp (M6 (by rfl) (T4 Y) (aA 0))))))
def B5:aU P w K mg base "named_parts" [] 3 1 (lG C):=Y.c zX ["words","tests"] λnd hr=>(aF (bN (QW.qt (xW (cI (bM hr) (aA 0) (cB (Qn []))) (qM (uY (bM hr) (qp (aN cP (qp (cL (by rfl) (dJ Y) (aA 0))) (qp aE))) (qp aE))))) (aG bY) aR)
   (aF (iM (i:=1) (fr:=[]) rfl nd rfl (Or.inl rfl) (by rfl) (bX (m1:=true) (rs:=[]) (qp (Z2g (aA 0) dU (cV (qp aE))))) (show List.Nodup (["word"]:Ab Str) from by decide +kernel) (by rfl) (λ_ _ _ _ _ _=>cF) (λ_ _ _ _ _ _=>(Qc (vM Y) (aB (Qv 0) (Qn [0])))))
   (aG (Z2b (M0 (qp aP) (wH 1 (M0 (cQ (fr:=[]) rfl (by rfl) (bX (m1:=true) (rs:=[]) (qp (Z2g (aA 0) (cV (qp aE)) (cV (qp aE))))) (show List.Nodup (["word"]:Ab Str) from by decide +kernel) (by rfl) (λ_ _ _ _ _ _=>cF) (λ_ _ _ _ _ _=>(Qc (Z4q Y) (aB (Qv 0) (Qn [0]))))) Z2e)))))))
def uN:aU P w K mg base "numbers_behind" [] 3 1 (mD C):=Y.c sY ["words","form","numbers","word","kind","number"] λnd hr=>(aF (Qs 1 (qp (Z7U (Z2D hr) Y.yv (by rfl) (gE (aB (QE.flat (aO (aA 0) (qp aE))) (aB (qp (aV cW (qp (cL (by rfl) (dJ Y) (aA 0))) (qp aE))) aW))))))
   (aF (bN (L8 (aA 1)) (aG bY) aR)
   (aF (Qs 2 (cB aW))
   (aF (dA rfl PassesOwn.never (Z2f (t:=true) (rs:=[1]) (by rfl) (Z1P Y) (aB (QE.weak (qp (dQ (aA 0) (cV (qp aE)) dU))) (aB (Qv 1) (Qn [1])))) (xY (is:=[3,4]) rfl (dL (dH (i:=3) nd rfl (Or.inl rfl)) (dL (dH (i:=4) nd rfl (Or.inl rfl)) mU)) rfl) (aF (Qs 5 (Qc (vM Y) (aB (Qv 3) (Qn [3]))))
   (aF (bN (QW.qt (kG (cI (bM hr) (aA 4) (qp aP)) (jU (Z28 (aA 5) (qp aE))))) (aG bY) aR)
   (aG (fL 2 (QE.flat (aA 5)))))))
   (aG (hU (i:=2)))))))
def B1:aU P w K mg base "taken_apart" [] 4 1 (dF C):=Y.c zV ["line","words","numbers"] λnd hr=>(aF (Qs 1 (qp (rP (aA 0) (qp aP))))
   (aF (bN (Z5m (V8 hr) (qp aP) (aA 1)) (aG bY) aR)
   (aF (bN (cI (bM hr) (aO (aA 1) (qp aE)) (qp aP)) (aG (aQ (gE (aB (qp aP) (aB (Qc (wB Y) (aB (QE.weak (qp (dQ (aA 1) (cV (qp aE)) dU))) (Qn []))) aW))))) aR)
   (aF (bN (cI (bM hr) (aO (aA 1) (qp aE)) (qp aP)) (aG (aQ (Qc (B5 Y) (aB (QE.weak (qp (dQ (aA 1) (cV (qp aE)) dU))) (Qn []))))) aR)
   (aF (Qs 2 (Qc (uN Y) (aB (Qv 1) (Qn [1]))))
   (aF (bN (cI (bM hr) (aO (aA 1) (qp aE)) (qp aP)) (aG (aQ (gE (aB (qp aP) (aB (qp qN) (aB (QE.flat (aO (aA 2) (qp aE))) aW)))))) aR)
   (aF (bN (QW.qt (xW (cI (bM hr) (aO (aA 1) (qp aE)) (qp aP)) (qM (cI (bM hr) (aO (aA 1) (qp aE)) (qp aP))))) (aG bY) aR)
   (aF (bN (cI (bM hr) (aO (aA 1) (qp aE)) (qp aP)) (aG bY) aR)
   (aG (aQ (gE (aB (QE.flat (aO (aA 1) (qp aE))) aW))))))))))))
def Zby:Z77 P w K mg base CD "say" 10 1 (Y9 C CD):=Y.yp.mN (Y.y9.cl) ["self","line","asked"] λa=>λnd hr=>(bB (cT (Qs 2 (Qc (B1 Y) (aB (Qv 1) (Qn [1])))))
   (bB (tI (Z5l (cI (bM hr) (aO (aA 2) (qp aE)) (qp aP))) (bB (Z7K (i:=0) rfl (Or.inl rfl) (Y.y9.cl) Y.yd (Z9S (Qc (Zas Y) (aB (Rp (aO (aA 2) (qp aE))) (Qn [2])))))
   (eS (cT (aQ (qp aP))))) lZ)
   (bB (tI (Z5l (cI (bM hr) (aO (aA 2) (qp aE)) (qp aP))) (bB (cT bY)
   (eS (wG (Z5p (qp (mS (by rfl) (qB Y) (qp (cL (by rfl) (dJ Y) (eL (Y.y4.cl) Y.y8 (eL (Y.y9.cl) Y.yd (aA 0))))))))))) lZ)
   (eS (wG (Z5p (Qc (Z6R Y) (aB (Rp (eL (Y.y9.cl) Y.yd (aA 0))) (aB (Qv 2) (Qn [0,2]))))))))))
def sO:pY P w K mg base "_law_says" 11 1 (kJ C CD):=Y.dk Z51 ["_law_desk","_law_line","_law_caught","_law_found","e","_law_sorts"] λa=>λnd hr=>(bB (cT (Qs 2 (qp qN)))
   (bB (cT (Qs 3 (qp qN)))
   (bB (Z5n (il:=0) (i:=3) (Zby Y) (hr.mono (by decide)) (.cons NArgs.nil) (aB (Qv 1) (Qn [1])) rfl nd rfl (Or.inl rfl) rfl rfl)
   (bB (cT (bN (L8 (aA 2)) (aG (aQ (QE.flat (aA 3)))) aR))
   (bB (cT bY)
   (bB (cT bY)
   (bB (cT bY)
   (eS (cT bY)))))))))
def G4:aU P w K mg base "_law_shown" [] 1 1 (pQ C):=Y.c Z3l ["_law_some","_law_words","_law_fault"] λnd hr=>(aF (bN (cI (bM hr) (qp (cL (by rfl) (dJ Y) (aA 0))) (qp aE)) (aG (aQ (qp aP))) aR)
   (aF (Qs 1 (cB aW))
   (aF (dA rfl PassesOwn.never (bX (aA 0)) (Qg 2) (aG (bN (L8 (aA 2)) (aG (fL 1 (qp aP))) (aG (fL 1 (qp (kW (qp aP) (cQ (fr:=[]) rfl (by rfl) (bX (m1:=true) (rs:=[]) (qp (dQ (aA 2) (cV (qp aE)) dU))) (show List.Nodup (["_law_part"]:Ab Str) from by decide +kernel) (by rfl) (λ_ _ _ _ _ _=>cF) (λ_ _ _ _ _ _=>(qp (mS (by rfl) (qB Y) (aA 0))))))))))))
   (aG (aQ (qp (kW (qp aP) (aA 1))))))))
def wA:pY P w K mg base "_law_named_right" 12 3 (gK C CD):=Y.dk vU ["_law_desk","_law_some","_law_tests","_law_told_bits","_law_due"] λa=>λnd hr=>(bB (cT (uZ (i:=4) (fr:=[3,2]) rfl nd rfl (Or.inl rfl) (by rfl) (bX (aA 1)) (show List.Nodup (["_law_fault","_law_told_outs","_law_told_bits","_law_tests"]:Ab Str) from by decide +kernel) (by rfl) (by rfl) (λ_ _ _ _ _ _=>wF (cI (bM hr) (Qc (oX Y) (aB (Qv 1) (aB (Qv 3) (Qn [1,3])))) (aA 2))) (λ_ _ _ _ _ _=>(QE.flat (aA 0)))))
   (eS (wG (Z9T (bM hr) (kU (j:=0) (sO Y) (hr.mono (by decide)) (.cons (.cons NArgs.nil)) (aB (Qv 0) (aB (QE.weak (Qc (Z4n Y) (aB (Qv 2) (aB (Qv 3) (Qn [2,3]))))) (Qn [0])))) (Qc (G4 Y) (aB (Qv 4) (Qn [4])))))))
def B7:aU P w K mg base "_law_new_words" [] 1 1 (lH C):=Y.c zZ ["_law_drawn_here","_law_words","_law_row"] λnd hr=>(aF (Qs 1 (cB (aB (qp aP) (aB (qp aP) (aB (qp (M3 (by rfl) (qB Y) (aO (aA 0) (qp aE)))) aW)))))
   (aF (dA rfl PassesOwn.never (bX (aO (aA 0) (qp aE))) (Qg 2) (aG (Qs 1 (xZ (qp (Z2i (m2:=true) (rs2:=[]) (aA 1) (cB (aB (qp aP) aW)))) (cQ (fr:=[]) rfl (by rfl) (bX (aA 2)) (show List.Nodup (["_law_part"]:Ab Str) from by decide +kernel) (by rfl) (λ_ _ _ _ _ _=>cF) (λ_ _ _ _ _ _=>(qp (M3 (by rfl) (qB Y) (aA 0)))))))))
   (aG (aQ (xZ (qp (Z2i (m2:=true) (rs2:=[]) (aA 1) (cB (aB (qp aP) (aB (qp aP) aW))))) (cQ (fr:=[]) rfl (by rfl) (bX (aO (aA 0) (qp aE))) (show List.Nodup (["_law_wire"]:Ab Str) from by decide +kernel) (by rfl) (λ_ _ _ _ _ _=>cF) (λ_ _ _ _ _ _=>(qp (M3 (by rfl) (qB Y) (aA 0))))))))))
def Z2S:aU P w K mg base "_law_leg" [] 1 6 (wN C):=Y.c Z7y ["_law_seen","_law_row","_law_leg_here","_law_fault","_law_wire","_law_most"] λnd hr=>(aF (bN (QW.qt (kG (rO (aA 3)) (jU (cI (bM hr) (qp (E2 (aA 3) dU (cV (qp aE)))) (gE (aB (QE.weak (qp aP)) (aB (Qv 4) (aB (Qv 2) (Qn [4,2]))))))))) (aG (aQ (qp (aN eZ (aA 5) (aO (aA 3) (qp aE)))))) aR)
   (aG (aQ (QE.flat (aO (aA 0) (aO (aA 1) (qp (aV dZ (aA 2) (qp aE)))))))))
def B6:aU P w K mg base "_law_row_table" [] 2 5 (fK C):=Y.c zY ["_law_seen","_law_row","_law_fault","_law_wire","_law_most","_law_one","_law_two"] λnd hr=>(aF (bN (cI (bM hr) (aO (aA 1) (qp aE)) (qp aP)) (aG (aQ (qp (aN eZ (aA 4) (aO (aA 1) (qp aE)))))) aR)
   (aF (Qs 5 (Qc (Z2S Y) (aB (Qv 0) (aB (Qv 1) (aB (QE.weak (qp aE)) (aB (Qv 2) (aB (Qv 3) (aB (Qv 4) (Qn [0,1,2,3,4])))))))))
   (aF (bN (cI (bM hr) (aO (aA 1) (qp aE)) (qp aP)) (aG (aQ (qp (aV cW (aA 4) (aA 5))))) aR)
   (aF (Qs 6 (Qc (Z2S Y) (aB (Qv 0) (aB (Qv 1) (aB (QE.weak (qp aE)) (aB (Qv 2) (aB (Qv 3) (aB (Qv 4) (Qn [0,1,2,3,4])))))))))
   (aF (bN (cI (bM hr) (aO (aA 1) (qp aE)) (qp aP)) (aG (aQ (qp (aV N1 (aA 5) (aA 6))))) aR)
   (aF (bN (cI (bM hr) (aO (aA 1) (qp aE)) (qp aP)) (aG (aQ (qp (aV X8 (aA 5) (aA 6))))) aR)
   (aG (aQ (qp (aV cW (qp (aV X8 (aA 5) (aA 6))) (qp (aV N1 (aA 5) (aA 6)))))))))))))
def Z4m:aU P w K mg base "_law_wires" [] 3 2 (tN C):=Y.c Z3k ["_law_drawn_here","_law_fault","_law_ins","_law_rows_here","_law_outs_here","_law_inputs","_law_most","_law_seen","_law_wire"] λnd hr=>(aF (Z7L (aA 0) (xY (is:=[2,3,4,5]) rfl (dL (dH (i:=2) nd rfl (Or.inl rfl)) (dL (dH (i:=3) nd rfl (Or.inl rfl)) (dL (dH (i:=4) nd rfl (Or.inl rfl)) (dL (dH (i:=5) nd rfl (Or.inl rfl)) mU)))) rfl))
   (aF (Qs 6 (qp (aV cW (qp (aN fQ (qp aE) (qp (aN fQ (qp aE) (aA 2))))) (qp aE))))
   (aF (Qs 7 (cB aW))
   (aF (dA rfl PassesOwn.never (eE (rs:=[]) (by rfl) (eV Y) (aB (QE.weak (qp (aV dZ (aA 2) (qp (cL (by rfl) (dJ Y) (aA 3)))))) (Qn []))) (Qg 8) (aG (bN (QW.qt (kG (rO (aA 1)) (jU (cI (bM hr) (qp (E2 (aA 1) dU (cV (qp aE)))) (gE (aB (QE.weak (qp aP)) (aB (Qv 8) (Qn [8])))))))) (aG (fL 7 (qp (aN eZ (aA 6) (aO (aA 1) (qp aE)))))) (aG (bN (xX (aA 8) (aA 2)) (aG (fL 7 (QE.flat (aO (aA 5) (aA 8))))) (aG (fL 7 (Qc (B6 Y) (aB (Qv 7) (aB (QE.more (aO (aA 3) (qp (aV cW (aA 8) (aA 2)))) (by simp)) (aB (Qv 1) (aB (Qv 8) (aB (Qv 6) (Qn [7,3,1,8,6]))))))))))))))
   (aG (hU (i:=7)))))))
def zK:aU P w K mg base "_law_out_tables" [] 4 2 (kK C):=Y.c xL ["_law_drawn_here","_law_fault","_law_seen"] λnd hr=>(aF (Qs 2 (Qc (Z4m Y) (aB (Qv 0) (aB (Qv 1) (Qn [0,1])))))
   (aG (aQ (cQ (fr:=[2]) rfl (by rfl) (bX (aO (aA 0) (qp aE))) (show List.Nodup (["_law_wire","_law_seen"]:Ab Str) from by decide +kernel) (by rfl) (λ_ _ _ _ _ _=>cF) (λ_ _ _ _ _ _=>(QE.flat (aO (aA 1) (aA 0))))))))
def uP:pY P w K mg base "_law_holds" 13 2 (mF C CD):=Y.dk Z3p ["_law_desk","_law_drawn_here","_law_script","_law_some","_law_spare","_law_many","_law_tests","_law_last","_law_k","_law_number","_law_told_bits","_law_bent","_law_at_here","_law_spot","_law_cut","_law_bits"] λa=>λnd hr=>(bB (cT (Qs 3 (cQ (fr:=[1]) rfl (by rfl) (bX (m1:=true) (rs:=[]) (xZ (cB (aB (qp qN) aW)) (Qc (Z1H Y) (aB (Qv 1) (Qn [1]))))) (show List.Nodup (["_law_fault","_law_drawn_here"]:Ab Str) from by decide +kernel) (by rfl) (λ_ _ _ _ _ _=>cF) (λ_ _ _ _ _ _=>(gE (aB (QE.flat (aA 0)) (aB (Qc (zK Y) (aB (Qv 1) (aB (Qv 0) (Qn [1,0])))) aW)))))))
   (bB (cT (uZ (i:=4) (fr:=[3]) rfl nd rfl (Or.inl rfl) (by rfl) (bX (aA 3)) (show List.Nodup (["_law_fault","_law_told_outs","_law_some"]:Ab Str) from by decide +kernel) (by rfl) (by rfl) (λ_ _ _ _ _ _=>wF (QW.qt (kG (rO (aA 0)) (jU (cI (bM hr) (aA 1) (aO (aO (aA 2) (qp aE)) (qp aE))))))) (λ_ _ _ _ _ _=>(QE.flat (aA 0)))))
   (bB (tI (Z10 (bM hr) (kU (j:=0) (sO Y) (hr.mono (by decide)) (.cons (.cons NArgs.nil)) (aB (Qv 0) (aB (QE.weak (qp (kW (qp aP) (Qc (B7 Y) (aB (Qv 1) (Qn [1])))))) (Qn [0])))) (qp aP)) (eS (cT (aQ (qp rR)))) lZ)
   (bB (tI (QWg.qt (Z5k (Z10 (bM hr) (kU (j:=0) (sO Y) (hr.mono (by decide)) (.cons (.cons NArgs.nil)) (aB (Qv 0) (aB (QE.weak (qp aP)) (Qn [0])))) (qp (mS (by rfl) (qB Y) (qp (aV cW (qp (cL (by rfl) (dJ Y) (aA 3))) (qp aE)))))) (Z27 (Z10 (bM hr) (kU (j:=0) (sO Y) (hr.mono (by decide)) (.cons (.cons NArgs.nil)) (aB (Qv 0) (aB (QE.weak (qp aP)) (Qn [0])))) (Qc (G4 Y) (aB (Qv 4) (Qn [4]))))))) (eS (cT (aQ (qp rR)))) lZ)
   (bB (cT (Qs 5 (qp (aV dZ (qp aE) (qp (aN cP (Qc (zL Y) (aB (Qv 2) (aB (QE.weak (qp aE)) (Qn [2])))) (qp aE)))))))
   (bB (cT (iM (i:=6) (fr:=[2,1]) rfl nd rfl (Or.inl rfl) (by rfl) (eE (rs:=[]) (by rfl) (eV Y) (aB (Qv 5) (Qn [5]))) (show List.Nodup (["_law_k","_law_script","_law_drawn_here"]:Ab Str) from by decide +kernel) (by rfl) (λ_ _ _ _ _ _=>cF) (λ_ _ _ _ _ _=>(qp (aN cP (Qc (uO Y) (aB (QE.weak (Qc (zL Y) (aB (Qv 1) (aB (Qv 0) (Qn [1,0]))))) (aB (QE.weak (qp (aV dZ (aA 0) (qp aE)))) (Qn [])))) (qp (aN fQ (qp aE) (aO (aA 2) (qp aE)))))))))
   (bB (cT (Qs 7 (Qc (oX Y) (aB (Rp (aO (aO (aA 3) (qp aE)) (qp aE))) (aB (Qv 6) (Qn [3,6]))))))
   (bB (Z2a (i:=8) rfl PassesOwn.never nd rfl (Or.inl rfl) (eE (rs:=[]) (by rfl) (eV Y) (aB (QE.weak (qp aE)) (Qn []))) (bB (cT (Qs 9 (Qc (uO Y) (aB (QE.weak (Qc (zL Y) (aB (Qv 2) (aB (QE.weak (qp (aV dZ (qp aE) (aA 8)))) (Qn [2]))))) (aB (QE.weak (qp (aV dZ (aA 8) (qp aE)))) (Qn []))))))
   (bB (cT (Qs 10 (Qc (oX Y) (aB (QE.more (aO (aO (aA 3) (aO (QE.weak (rs:=[]) (cB (aB (qp (aN cP (aA 9) (qp (cL (by rfl) (dJ Y) (aA 3))))) (aB (qp aE) aW)))) (qp (Z2h (by rfl) (T4 Y) (qp (Z91 (bM hr) (aA 8) (qp aE))))))) (qp aE)) (by simp)) (aB (Qv 6) (Qn [3,6]))))))
   (bB (cT (iM (i:=11) (fr:=[]) rfl nd rfl (Or.inl rfl) (by rfl) (bX (aA 10)) (show List.Nodup (["_law_bits"]:Ab Str) from by decide +kernel) (by rfl) (λ_ _ _ _ _ _=>cF) (λ_ _ _ _ _ _=>(qp (rQ (by rfl) (wT Y) (aA 0))))))
   (bB (cT (Qs 12 (qp (aN cP (qp (aN dR (aA 9) (qp aE))) (aA 5)))))
   (bB (cT (Qs 13 (qp (aN cP (qp (aN dR (aA 9) (qp aE))) (qp (cL (by rfl) (dJ Y) (aO (aA 1) (qp aE))))))))
   (bB (cT (Z5o 11 (aA 12) (aA 13) (qp (aV cW (qp aE) (aO (aO (aA 11) (aA 12)) (aA 13))))))
   (bB (cT (Qs 14 (qp (aN cP (qp (aN dR (aA 9) (qp aE))) (qp (aV dZ (aA 5) (qp aE)))))))
   (bB (Z2a (i:=15) rfl PassesOwn.never nd rfl (Or.inl rfl) (bX (cB (aB (Qv 10) (aB (Qv 11) (aB (QE.more (Z7W (rs:=[7,10]) (Rp (Z5r (aA 7) dU (cV (aA 14)))) (Rp (Z5r (aA 10) (cV (aA 14)) dU))) (by simp)) (Qn [10,11,7])))))) (eS (tI (L7 (L6 (kU (j:=0) (wA Y) (hr.mono (by decide)) (.cons (.cons (.cons (.cons NArgs.nil)))) (aB (Qv 0) (aB (Qv 3) (aB (Qv 6) (aB (Qv 15) (Qn [0,3,6,15])))))))) (eS (cT (aQ (qp rR)))) lZ)))
   (eS (cT (Z7M (i:=7) nd rfl (Or.inl rfl) (aA 10)))))))))))))
   (eS (cT (aQ (qp rR))))))))))))
def Za8{b:Af}{fd:FuncData}(F:FunD K "law" "law" Z8W b fd):iF P w K mg base CX0 14 b fd ["_law_script"] (spD K 1 (Z96 C CD)):=F.k (N:=["_law_script","_law_drawn_here","_law_other","_law_desk"]) Ro λnd hr=>(Zb1 (bB (cT (Qs 1 (Qc (G5 Y) (aB (Qv 0) (Qn [0])))))
   (bB (cT (Qs 2 (Qc (G5 Y) (aB (QE.weak (qp (dQ (aA 0) (cV (qp aE)) (cV (qp aE))))) (Qn [])))))
   (Z3D (i:=3) nd rfl (Or.inl rfl) (Z9U (Z8h Y) (hr.mono (by decide))) λa =>
   (bB (tI (QWg.qt (Z5k (L7 (L6 (kU (j:=0) (uP Y) (hr.mono (by decide)) (.cons (.cons (.cons NArgs.nil))) (aB (Qv 3) (aB (Qv 2) (aB (Qv 0) (Qn [3,2,0]))))))) (Z27 (L7 (L6 (kU (j:=0) (uP Y) (hr.mono (by decide)) (.cons (.cons (.cons NArgs.nil))) (aB (Qv 3) (aB (Qv 1) (aB (Qv 0) (Qn [3,1,0])))))))))) (eS (cT (aQ (qp rR)))) lZ)
   (eS (wG (kU (j:=0) (uP Y) (hr.mono (by decide)) (.cons (.cons (.cons NArgs.nil))) (aB (Qv 3) (aB (Qv 2) (aB (QE.weak (qp (dQ (aA 0) (cV (qp aE)) dU))) (Qn [3,2]))))))))))))
end
def head_mk{w:Ak}{K:Frag}{h:Ah}{mg:Str->Aa Ad}{fa:Af}{P:Aj}(X:K.In h)(G:h.Ns mainGlobals mg)(o:mg "law" = some (.ref fa))(hk:K=FR.KK w.params)
  {C CD:Af}
  (I:∃f,HD K "law" Z8W f)
  (A:NoAttr K C "ins")
  (M:NoAttr K C "rows")
  (yc:NoAttr K C "outs")
  (H:HCl K "Circuit" C kE "Circuit.__init__")
  (yd:NoAttr K CD "circuit")
  (y9:HCl K "Desk" CD nV "Desk.__init__")
  {B:Tok}(ye:nsIn K mainGlobals "FIGURES" = some (some (.str "0123456789" B)))
  {S:Tok}(R:nsIn K mainGlobals "MOST_FIGURES" = some (some (.int 9 S)))
  {T:Tok}(r:nsIn K mainGlobals "MOST_INS" = some (some (.int 8 T)))
  {Y:Tok}(U:nsIn K mainGlobals "MOST_OUTS" = some (some (.int 16 Y)))
  {b:Af}{l:Ae DictEntry}{p:Nat}(L:nsIn K mainGlobals "NUMBERS_BEHIND" = some (some (.ref b))) (Q:K.lookup b=some ⟨.type "dict",none,.dict l p,#[]⟩) (t:PySem.W.KeysLit w.params l.toList) (O:(b==sysModules)=false) (E:esK [("fix",1),("not",1),("and",2),("or",2),("xor",2)] l.toList)
  {N:Tok}(yj:nsIn K mainGlobals "MOST_ROWS" = some (some (.int 60 N)))
  {j:Af}{n:Ae DictEntry}{q:Nat}(zf:nsIn K mainGlobals "FORMS" = some (some (.ref j))) (J:K.lookup j=some ⟨.type "dict",none,.dict n q,#[]⟩) (y:(j==sysModules)=false) (zi:esT K P w [([.inr "give",.inl 1],["number"]),([.inr "stuck",.inl 3],["number","bit","number"]),([.inr "leg",.inl 4],["number","bit","bit","number"]),([.inr "faults",.inl 0],[]),([.inr "idle",.inl 0],[]),([.inr "tells",.inl 2],["number","bit"]),([.inr "tells",.inl 3],["number","bit","bit"]),([.inr "lean",.inl 0],[])] n.toList)
  (Z : HMe K "say" CD Z8T "Desk.say")
   :
  ∃(fd:FuncData) (m:Ab D->Aa D),(∀(s:Ac) (u:Ad),BindsTo s fd ⟨[u],[]⟩ [("_law_script",u)])/\(∀ns:Ab Int,ns.length<=63->(∀i∈ns,Builtin.Int.intBits i<=1048576)->m [.lst (ns.map D.int)]=some (.bl true)) /\
   ∀base:Ah,K.In base->base.Ns mainGlobals mg->iF P w K mg base CX0 14 fa fd ["_law_script"] (spD K 1 m):=by
 have a:∀{x:Str}{v:Ad},nsIn K mainGlobals x=some (some v)->mg x=some v:=λe=>mg_of X G e;exact HB.law X G I o (λ_ _=>rfl) (λm=>∀ns:Ab Int,ns.length<=63->(∀i∈ns,Builtin.Int.intBits i<=1048576)->m [.lst (ns.map D.int)]=some (.bl true)) (Z67 ) λfd F base KB NB=>Za8 (P:=P) (C:=C) ⟨⟨hk,⟨_,X,G⟩,KB⟩,A,M,yc,H,yd,y9,⟨_,a ye⟩,⟨_,a R⟩,⟨_,a r⟩,⟨_,a U⟩,⟨⟨b,l,p,a L,Q,t,O,E⟩⟩,⟨_,a yj⟩,⟨⟨j,n,q,a zf,J,y,zi,by decide +kernel⟩⟩,Z⟩ F
end G
open PySem PySem.W PyProof.Rows
set_option maxRecDepth 100000 in
set_option maxHeartbeats 0 in
theorem PySem.Challenge.cw_stuckwire_k62_desk_faults_holds : PySem.Challenge.rw_stuckwire_k62_desk_faults.Holds := by
  w_on; o_law
  refine holds_open (q := FR.qK) (loose := FR.looseK) (Xt := fun s => xlAt FR.qK [] s && recOk (RowW.records PySem.Challenge.rw_stuckwire_k62_desk_faults.row.toRowW) s) (XP := XL FR.qK []) (Yf := Hook.obs (kHook FR.KK FR.asK FR.asK_eq)) (Ya := Hook.val (kHook FR.KK FR.asK FR.asK_eq)) (YP := Hook.says (kHook FR.KK FR.asK FR.asK_eq)) (N := 9118) FR.leftK (Hook.of (kHook FR.KK FR.asK FR.asK_eq)) (Hook.keeps (kHook FR.KK FR.asK FR.asK_eq)) (fun s e => xl_of s (Bool.and_eq_true_iff.mp e).1) XL.keeps (by rfl) (by rfl) (by rfl) (fun s e => recFacts_of (Bool.and_eq_true_iff.mp e).2) (by rfl) (by first | assumption | decide +kernel) (by decide +kernel) ⟨rfl, rfl, rfl, rfl, rfl, by decide +kernel⟩ ?hw ?hc
  case hw => w_witness2
  k_fill
  refine PD.walkD (l := PySem.Challenge.rw_stuckwire_k62_desk_faults) (n := 63) (k := 14) (x := "_law_script") rfl (by decide) rfl ⟨rfl, by decide, by decide⟩ (fun w h Y => PySem.W.kIn_of Y) ?F
  case F =>
    intro w mg fa h b f a
    apply G.head_mk b f a rfl
    any_goals k_is
    any_goals (apply Exists.intro; apply PD.HD.mk <;> k_is)
    any_goals (apply PD.HCl.mk <;> k_is)
    try any_goals k_is
    any_goals (apply PD.HMe.mk <;> k_is)
    all_goals first | rfl | decide +kernel | (refine ⟨?_,?_,?_,?_,?_,?_,?_,?_,trivial⟩ <;> exact ⟨_, _, rfl, ⟨_, _, _, by k_is, rfl, rfl, by decide, by repeat (first | exact .nil | refine .cons ⟨_, rfl⟩ ?_)⟩, _, _, _, by k_is, rfl, rfl, by decide, by repeat (first | exact .nil | refine .cons ⟨_, rfl⟩ ?_)⟩) | (exact ⟨⟨_, _, rfl, rfl⟩, ⟨_, _, rfl, rfl⟩, ⟨_, _, rfl, rfl⟩, ⟨_, _, rfl, rfl⟩, ⟨_, _, rfl, rfl⟩, trivial⟩) | (exact ⟨⟨⟨_, rfl⟩, _, rfl⟩, ⟨⟨_, rfl⟩, _, rfl⟩, ⟨⟨_, rfl⟩, _, rfl⟩, ⟨⟨_, rfl⟩, _, rfl⟩, ⟨⟨_, rfl⟩, _, rfl⟩, trivial⟩)
