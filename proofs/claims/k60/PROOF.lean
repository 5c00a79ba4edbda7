import PyProof.Rows.All
import Wide.All
import OpenK.AllK
import Wide.FinOn
import Lean
import PyProof.EqAt
import PyProof.EqKinds
import PyProof.TupleCall
import KE.KRevIter
import PyProof.ListRange
import PyProof.ZipIter
import PyProof.Rows.ZipGen
import KE.KDictSum
import KE.KRevSl
import PyProof.DictWalks
import PyProof.DictIter
import KE.KDictLaws
import PyProof.StrReplace2
import PyProof.CallStr
import KE.KNestM
import KE.KLam
import PyProof.RaisesMany
import PyProof.ExcClass3
import PyProof.RulesTry
import PyProof.StationsW
import PyProof.RulesAs
import KE.KIsAll
import PyProof.ExcBaseAll.ValueError
import PyProof.StrBlockG
import KE.IntTextLaws
import PyProof.Rows.CatFin
import Open.Tops
import PySem.Challenge.RW_stuckwire_k60_lines_read
set_option maxHeartbeats 0
open PySem.W (Frag fnOf keepIn codeIn nsIn mg_of)
set_option Elab.async false
set_option linter.all false
noncomputable section
set_option maxRecDepth 100000
set_option bootstrap.genMatcherCode false
set_option compiler.extract_closed false
set_option genSizeOfSpec false
set_option hygiene false
def cpsP(s:Lean.Syntax):Lean.MacroM Lean.Syntax:=s.rewriteBottomUpM fun s=>do{if s.isOfKind `Lean.Parser.Term.anonymousCtor then{let p←s[1].getSepArgs.mapM fun c=>`(Lean.Parser.Tactic.rcasesPatLo|$(⟨c⟩):rcasesPat);return (←`(rcasesPat|⟨$p,*⟩))}else if s.isIdent then{return (←`(rcasesPat|$(⟨s⟩):ident))}else if s.isOfKind `Lean.Parser.Term.hole then{return (←`(rcasesPat|_))}else{return s}}
def cpsB(xs:Array Lean.Syntax):Lean.MacroM (Array (Lean.TSyntax `Lean.Parser.Term.funBinder)×Array (Lean.TSyntax `tactic)):=do{let mut y:=#[];let mut t:=#[];for x in xs do{if x.isOfKind `Lean.Parser.Term.anonymousCtor&&(x.reprint.getD "").toList.count ','>1 then{let i:=Lean.mkIdent (.mkSimple s!"y{t.size}__");let p:Lean.TSyntax `rcasesPat:=⟨←cpsP x⟩;y:=y.push ⟨i.raw⟩;t:=t.push (←`(tactic|obtain $p:rcasesPat:=$i))}else{y:=y.push ⟨x⟩}};if t.isEmpty then{Lean.Macro.throwUnsupported};return (y,t)}
local macro_rules
|`(tactic|obtain $p:rcasesPatMed := $e:term)=>do{let s:=(p.raw.reprint.getD "").toList;if s.count ','<2 then{Lean.Macro.throwUnsupported};let t←(if s.contains '_' then `(tactic|rcases $e:term with $p) else `(tactic|set_option tactic.hygienic false in rcases $e:term with $p));`(tactic|(refine Classical.byContradiction fun k__=>?_;$t<;>(refine k__ ?_;clear k__)))}
|`(tactic|cases $h:ident)=>`(tactic|first|(have e__:=Option.some.inj $h;clear $h;subst e__)|(exact (Option.some_ne_none _ $h).elim)|(exact (Option.some_ne_none _ ($h).symm).elim)|(refine Classical.byContradiction fun k__=>?_;cases ($h);all_goals(refine k__ ?_;clear k__))|cases ($h))
|`(fun $xs* => $e)=>do{if !e.raw.isOfKind `Lean.Parser.Term.byTactic&&(e.raw.find? (·.isOfKind `Lean.Parser.Term.syntheticHole)).isSome then{Lean.Macro.throwUnsupported};let (y,t)←cpsB xs;`(fun $y* => by ($[$t];*; exact $e))}
|`(tactic|refine $e)=>do{let mut n:=0;for s in e.raw.topDown do{if s.isOfKind `Lean.Parser.Term.syntheticHole then{n:=n+1}};match n,e.raw.find? fun s=>s.isOfKind `Lean.Parser.Term.fun&&s[1][3].isOfKind `Lean.Parser.Term.syntheticHole with|1,some f=>{match f with|`(fun $xs* => $h)=>{let (y,t)←cpsB xs;let g←`(fun $y* => $h);let u:Lean.Term:=⟨←e.raw.replaceM fun s=>pure (if s==f then some g.raw else none)⟩;`(tactic|(refine $u;$[$t];*))}|_=>Lean.Macro.throwUnsupported}|_,_=>Lean.Macro.throwUnsupported}
|`(tactic|rintro $ps:rintroPat*)=>do{if ps.size==1 then{match ps[0]! with|`(rintroPat|$p:rcasesPat)=>{if p.raw.isOfKind `Lean.Parser.Tactic.rcasesPat.tuple&&(p.raw.reprint.getD "").toList.count ','>1 then{return (←`(tactic|(intro y__;obtain $p:rcasesPat:=y__)))}else{Lean.Macro.throwUnsupported}}|_=>{Lean.Macro.throwUnsupported}}else{let t←ps.mapM fun p=>`(tactic|rintro $p:rintroPat);`(tactic|($[$t];*))}}
set_option hygiene true
local macro_rules (kind := Lean.Parser.Command.declaration)
|s=>do{if (s[1].isOfKind `Lean.Parser.Command.definition||s[1].isOfKind `Lean.Parser.Command.abbrev||s[1].isOfKind `Lean.Parser.Command.instance)&&s[0][4].isNone&&![`Zd4,`kqA,`kqB].contains s[1][1][0].getId then{return s.setArg 0 (s[0].setArg 4 (Lean.mkNullNode #[Lean.Syntax.node .none `Lean.Parser.Command.noncomputable #[Lean.mkAtom "noncomputable"]]))}else{Lean.Macro.throwUnsupported}}
abbrev Ra:=@PySem.wpAny_bind
abbrev Rb:=@PySem.wpAny_pure
abbrev Rc:=@PySem.wpAny_mono
abbrev Re:=@PySem.wpAny_newObj_type
abbrev Rf:=@PySem.wpAny_call_entry
abbrev Rg:=@PySem.wpAny_Call_Name_kw
abbrev Rh:=@decide_eq_false
abbrev Ri:=@decide_eq_true
abbrev Rj:=@decide_eq_true_eq
abbrev Rk:=@if_true
abbrev Rl:=@if_false
abbrev Rm:=@decide_eq_false_iff_not
abbrev Aa:=Option
abbrev Ab:=List
abbrev Ac:=PySem.Shared
abbrev Ad:=PySem.Value
abbrev Ae:=Array
abbrev Af:=PySem.Addr
abbrev Ag:=PySem.Expr
abbrev Ah:=PySem.Heap
abbrev Ai:=PySem.Around
abbrev Aj:=PySem.Program
abbrev Ak:=PySem.World
abbrev Qaa:=@List.mem_cons_of_mem
abbrev Qab:=@List.mem_cons
abbrev Qac:=@PySem.Heap.get?_push_of_some
abbrev Qad:=@List.length_map
abbrev Qae:=@List.mem_append_right
abbrev Qaf:=@List.mem_append
abbrev Qag:=@List.mem_cons_self
abbrev Qah:=@List.getElem?_eq_some_iff
abbrev Qai:=@List.length_cons
abbrev Qaj:=@List.length_append
abbrev Qak:=@Bool.and_eq_true
abbrev Qal:=@PySem.Heap.lt_size
abbrev Qam:=@List.getElem?_eq_getElem
abbrev Qan:=@List.map_cons
abbrev Qao:=@List.getElem?_set_ne
abbrev Qap:=@Nat.le_refl
abbrev Qaq:=@List.mem_singleton
abbrev Qar:=@List.mem_append_left
abbrev Qas:=@PySem.Heap.get?_push_size
abbrev Qat:=@List.size_toArray
abbrev Qau:=@List.nodup_append
abbrev Qav:=@List.nodup_cons
abbrev Qaw:=@Nat.lt_of_lt_of_le
abbrev Qax:=@List.getElem?_map
abbrev Qay:=@Nat.le_trans
abbrev Qaz:=@List.all_eq_true
abbrev QaA:=@Nat.ne_of_lt
abbrev QaB:=@List.lookup_cons
abbrev QaC:=@List.getElem?_set_self
abbrev QaD:=@List.nodup_nil
abbrev QaE:=@List.mem_of_getElem?
abbrev QaF:=@Option.some.inj
abbrev QaG:=@List.length_singleton
abbrev QaH:=@List.getElem?_eq_none
abbrev QaI:=@List.getElem?_append_left
abbrev QaJ:=@List.set_eq_of_length_le
abbrev QaK:=@Option.map_some
abbrev QaL:=@Array.getElem?_eq_some_iff
abbrev QaM:=@List.length_eq_zero_iff
abbrev QaN:=@List.append_nil
abbrev QaO:=@Option.some.injEq
abbrev QaP:=@Int.emod_lt_of_pos
abbrev QaQ:=@PySem.W.kia_one
abbrev QaR:=@List.find?_cons
abbrev QaS:=@Int.emod_nonneg
abbrev QaT:=@List.map_append
abbrev QaU:=@Bool.eq_iff_iff
abbrev QaV:=@List.length_take
abbrev QaW:=@Option.isSome_iff_exists
abbrev QaX:=@List.count_append
abbrev QaY:=@Nat.zero_le
abbrev QaZ:=@List.length_nil
abbrev Qa0:=@List.take_length
abbrev Qa1:=@List.mem_map
abbrev Qa2:=@List.length_drop
abbrev Qa3:=@List.getElem?_append_right
abbrev Qa4:=@Bool.and_true
abbrev Qa5:=@List.map_nil
abbrev Qa6:=@List.not_mem_nil
abbrev Qa7:=@Int.eq_ofNat_of_zero_le
abbrev Qa8:=@Option.bind_some
abbrev Qa9:=@Nat.lt_irrefl
abbrev Qba:=@List.zip_cons_cons
abbrev Qbb:=@List.pairwise_cons
abbrev Qbc:=@List.map_map
abbrev Qbd:=@Bool.false_eq_true
abbrev Qbe:=@List.drop_eq_getElem_cons
abbrev Qbf:=@List.forIn_cons
abbrev Qbg:=@List.filterMap_cons_some
abbrev Qbh:=@Nat.le_of_lt
abbrev Qbi:=@List.getElem?_replicate
abbrev Qbj:=@Array.length_toList
abbrev Qbk:=@List.eq_nil_of_length_eq_zero
abbrev Qbl:=@List.take_of_length_le
abbrev Qbm:=@PySem.W.of_hideAll
abbrev Qbn:=@Bool.false_ne_true
abbrev Qbo:=@Nat.zero_add
abbrev Qbp:=@PySem.Heap.size_push
abbrev Qbq:=@List.getLastD_eq_getLast?
abbrev Qbr:=@List.getElem_mem
abbrev Qbs:=@List.map_congr_left
abbrev Qbt:=@List.filterMap_cons
abbrev Qbu:=@Nat.ne_of_gt
abbrev Qbv:=@List.filterMap_cons_none
abbrev Qbw:=@PySem.F.plainAttrs_list
namespace L2
open PySem PySem.Spec PyProof.Rows
abbrev sEa(e:Ag)(es:Ab Ag)(n:Env):Prop:=starEach (e::es) n=(false,eval e n)::starEach es n
abbrev bTa(p:Pos)(es:Ab Ag)(n:Env):Prop:=(backTo p (starEach es n)).any (·.1)=false
abbrev nDb(x:Str):Prop:=(x==("__debug__" : Str))=false
abbrev Key:=Sum Int Str
def K3:Key->Ad->Bool
 | .inl k,v=>Value.isInt k v
 | .inr x,v=>Value.isStrOf x v
def Ze5(w:Ak):Key->Int
 | .inl k=>hashInt k
 | .inr x=>hashStr w x
def eI:∀{k:Key}{v:Ad},K3 k v=true->(∃i t,k=Sum.inl i/\v=Value.int i t)\/(∃x t,k=Sum.inr x/\v=Value.str x t)
 | .inl i,v,h=>by
  obtain⟨t,e⟩:=Value.isInt_shape (k:=i) (v:=v) h;exact .inl ⟨i,t,rfl,e⟩
 | .inr x,v,h=>by
  obtain⟨t,e⟩:=Value.isStrOf_shape (x:=x) (v:=v) h;exact .inr ⟨x,t,rfl,e⟩
def Z5K(i:Int)(t:Tok):K3 (.inl i) (.int i t)=true:=by simp[K3,Value.isInt]
def Z5J(x:Str)(t:Tok):K3 (.inr x) (.str x t)=true:=by simp[K3,Value.isStrOf]
def Zc5(a b:Int):decide ((Sum.inl a:Key)=Sum.inl b)=(a==b):=by
 by_cases e:a=b
 .subst e;simp
 .have h:¬(Sum.inl a:Key)=Sum.inl b:=λq=>e (Sum.inl.inj q);rw[Rh h];exact(beq_eq_false_iff_ne.mpr e).symm
def Zc2(a b:Str):decide ((Sum.inr a:Key)=Sum.inr b)=decide (a=b):=by
 by_cases e:a=b
 .subst e;simp
 .have h:¬(Sum.inr a:Key)=Sum.inr b:=λq=>e (Sum.inr.inj q);rw[Rh h,Rh e]
def Zc4(a:Int)(b:Str):decide ((Sum.inl a:Key)=Sum.inr b)=false:=Rh (λq=>nomatch q)
def Zc3(a:Str)(b:Int):decide ((Sum.inr a:Key)=Sum.inl b)=false:=Rh (λq=>nomatch q)
def fE(prog:Aj)(w:Ak):PySem.KeyKind prog w Key where
 is:=K3
 hash:=Ze5 w
 inj:=λv a b ha hb=>by
  rcases eI ha with⟨i,t,rfl,rfl⟩|⟨x,t,rfl,rfl⟩
  .rcases eI hb with⟨j,u,rfl,e⟩|⟨y,u,rfl,e⟩
   .injection e with e1 _;rw[e1]
   .exact nomatch e
  .rcases eI hb with⟨j,u,rfl,e⟩|⟨y,u,rfl,e⟩
   .exact nomatch e
   .injection e with e1 _;rw[e1]
 byValue := λk v h => by
  rcases eI h with⟨i,t,rfl,rfl⟩|⟨x,t,rfl,rfl⟩<;>rfl
 pyHash:=λhv h=>by
  rcases eI hv with⟨i,t,rfl,rfl⟩|⟨x,t,rfl,rfl⟩
  .exact wpAny_pyHash_int h
  .exact wpAny_pyHash_str h
 eqBool:=λhu hv h=>by
  rcases eI hu with⟨i,t,rfl,rfl⟩|⟨x,t,rfl,rfl⟩
  .rcases eI hv with⟨j,u,rfl,rfl⟩|⟨y,u,rfl,rfl⟩
   .rw[Zc5]at h;exact wpAny_eqBool_int h
   .rw[Zc4]at h;exact SeqAt.EqAt.int_str i t y u _ _ _ _ h
  .rcases eI hv with⟨j,u,rfl,rfl⟩|⟨y,u,rfl,rfl⟩
   .rw[Zc3]at h;exact SeqAt.EqAt.str_int x t j u _ _ _ _ h
   .rw[Zc2]at h;exact wpAny_eqBool_str h
 «strs»:=λk x t v h=>by
  rcases eI h with⟨i,u,rfl,e⟩|⟨y,u,rfl,e⟩
  .exact nomatch e
  .injection e with e1 _;subst e1;cases v<;>rfl
def Z1G(prog:Aj)(w:Ak)(i:Int)(t:Tok):(fE prog w).is (.inl i) (.int i t)=true:=Z5K i t
def Z1F(prog:Aj)(w:Ak)(x:Str)(t:Tok):(fE prog w).is (.inr x) (.str x t)=true:=Z5J x t
inductive V where
 |non|bl (b:Bool)|int (i:Int)|str (x:Str)|byt (b:Array UInt8)|flt (b:UInt64)|ref (a:Addr)|ty (n:String)
 deriving DecidableEq
def RelV:V->Ad->Prop
 | .non,u=>u=Value.none
 | .bl b,u=>u=Value.bool b
 | .int i,u=>∃t,u=Value.int i t
 | .str x,u=>∃t,u=Value.str x t
 | .byt b,u=>∃t,u=Value.bytes b t
 | .flt b,u=>∃t,u=Value.float b t
 | .ref a,u=>u=Value.ref a
 | .ty n,u=>u=Value.type n
abbrev Vals:Ab V->Ab Ad->Prop:=Paired RelV
theorem Vals.length(r:Vals xs us):xs.length=us.length:=Paired.length r
theorem Vals.get:∀{xs:Ab V}{us:Ab Ad}{i:Nat}{x:V},Vals xs us->xs[i]?=some x->∃u,us[i]?=some u/\RelV x u
 |_,_,_,_,.nil,e=>by simp at e
 |_,_,0,_,.cons r _,e=>by simp at e;subst e;exact⟨_,rfl,r⟩
 |_,_,i+1,x,.cons _ t,e=>by
  obtain⟨u,h1,h2⟩:=Vals.get (i:=i) (x:=x) t (by simpa using e);exact⟨u,by simpa using h1,h2⟩
theorem Vals.append:∀{xs ys:Ab V}{us ws:Ab Ad},Vals xs us->Vals ys ws->Vals (xs++ys) (us++ws)
 |_,_,_,_,.nil,s=>s
 |_,_,_,_,.cons r t,s=>.cons r (Vals.append t s)
theorem Vals.take:∀{xs:Ab V}{us:Ab Ad}(n:Nat),Vals xs us->Vals (xs.take n) (us.take n)
 |_,_,0,_=>.nil
 |_,_,_+1,.nil=>.nil
 |_,_,n+1,.cons r t=>.cons r (Vals.take n t)
theorem Vals.drop:∀{xs:Ab V}{us:Ab Ad}(n:Nat),Vals xs us->Vals (xs.drop n) (us.drop n)
 |_,_,0,r=>r
 |_,_,_+1,.nil=>.nil
 |_,_,n+1,.cons _ t=>Vals.drop n t
def Vals.none_of:∀{xs:Ab V}{us:Ab Ad}{i:Nat},Vals xs us->xs[i]?=none->us[i]?=none:=λ{xs us i} r e=>by
 have h1:=r.length;have h2:xs.length<=i:=List.getElem?_eq_none_iff.mp e;exact List.getElem?_eq_none_iff.mpr (by omega)
def RelO:Aa V->Aa Ad->Prop
 |some v,some u=>RelV v u
 |none,none=>True
 |_,_=>False
def KV{κ:Type}:Ab (κ×V)->Ab (κ×Ad)->Prop:=Paired λ(p:κ×V) (q:κ×Ad)=>p.1=q.1/\RelV p.2 q.2
def kV:Key->V
 | .inl i=>.int i
 | .inr x=>.str x
inductive HO where
 |lst (xs:List V)
 |tup (xs:List V)
 |dK (kvs:List (Key×V))
 |cod (q:Str)
 |ins (C dx:Addr) (fs:List (Str×V))
 |own (x:Addr)
 |frz (o:Obj) (u:HO)
 |tbl (ps:Array (Pos×Str))
 |ext (φ:Heap->Prop)
abbrev Hp:=Af->Aa HO
def upd(H:Hp)(a:Af)(o:HO):Hp:=λb=>if b=a then some o else H b
def bC:upd H a o a=some o:=by unfold upd;rw[if_pos rfl]
def aY(h:b≠a):upd H a o b=H b:=by unfold upd;rw[if_neg h]
def bL{H:Hp}{a b:Af}{o:HO}(h:H a=some o)(h':H b=none):a≠b:=by
 intro e;subst e;rw[h]at h';cases h'
section
variable (P:Aj)(w:Ak)
def ObjOk(H:Hp)(h:Ah)(a:Af):HO->Prop
 | .lst xs=>xs.length<=sizeLine/\∃(ak:Ab Ad) (n:Nat),Vals xs ak/\h.get? a=some { cls:=.type "list",data:=.seq ak.toArray n }
 | .tup xs=>xs.length<=sizeLine/\∃ak:Ab Ad,Vals xs ak/\IsTup h a ak.toArray
 | .dK kvs=>kvs.length<=sizeLine/\(a==sysModules)=false/\∃vs,KV kvs vs/\h.DictOf (fE P w) a vs
 | .cod q=>h.CodeRec (.ref a) q
 | .ins C dx fs=>H dx=some (.own a) /\ fs.length <= 1000 /\ dx ≠ a /\ h.get? a=some (PySem.W.instObj C dx) /\
   ∃mA,h.Ns1 dx mA/\(∀f,RelO (fs.lookup f) (mA f))/\PySem.Within mA (fs.map (·.1))
 | .own _=>∃o,h.get? a=some o
 | .frz o u=>h.get? a=some o/\ObjOk H h a u
 | .tbl ps=>∃pv:Ae Ad,h.get? a=some { cls:=.none,data:=.fields pv }/\TriplesOk pv.toList/\∀p,ps[0]?=some p->codeAmong p.1 pv.toList=none\/∃c oc,codeAmong p.1 pv.toList=some (.ref c)/\H c=some (.frz oc (.cod p.2))
 | .ext φ=>φ h/\(∃o,h.get? a=some o)/\∀h1 h2:Ah,φ h1->(∀o,h1.get? a=some o->h2.get? a=some o)->φ h2
def HOk(H:Hp)(h:Ah):Prop:=∀a o,H a=some o->ObjOk P w H h a o
end
section
variable {P:Aj}{w:Ak}{H H':Hp}{h h':Ah}{a:Af}{o:HO}
theorem ObjOk.lt(x:ObjOk P w H h a o):a<h.objs.size:=by
 cases o with
 |lst xs=>obtain⟨_,_,_,_,e⟩:=x;exact Qal e
 |tup xs=>obtain⟨_,_,_,p⟩:=x;exact p.lt
 |dK kvs=>obtain⟨_,_,_,_,o,_,_,e,_⟩:=x;exact Qal e
 |cod q=>obtain⟨c,o,_,_,z,e,_⟩:=x;cases z;exact Qal e
 |ins C dx fs=>obtain⟨_,_,_,e,_⟩:=x;exact Qal e
 |own y=>obtain⟨_,e⟩:=x;exact Qal e
 |frz ob u=>obtain⟨e,_⟩:=x;exact Qal e
 |tbl ps=>obtain⟨_,e,_⟩:=x;exact Qal e
 |ext φ=>obtain⟨_,⟨_,e⟩,_⟩:=x;exact Qal e
def ObjOk.stay(x:ObjOk P w H h a o)(k:∀b u,(b=a\/H b=some (.own a))->h.get? b=some u->h'.get? b=some u)
  (l:∀b,H b=some (.own a)->H' b=some (.own a)) (F:∀b xs,H b=some (.tup xs)->H' b=some (.tup xs))
  (j:∀b o q,H b=some (.frz o (.cod q))->H' b=some (.frz o (.cod q)):=by intro b o q r;first|exact r|(rw[aY (bL r (by assumption))];exact r)|(rw[aY (λz=>by subst z;simp_all[Mut])];exact r)|(rw[aY (λz=>by rw[z]at r;simp_all)];exact r)):ObjOk P w H' h' a o:=by
 induction o with
 |lst xs=>obtain⟨z,ak,n,r,e⟩:=x;exact⟨z,ak,n,r,k _ _ (.inl rfl) e⟩
 |tup xs=>obtain⟨z,ak,r,f,e,c⟩:=x;exact⟨z,ak,r,f,k _ _ (.inl rfl) e,c⟩
 |dK kvs=>obtain⟨z,y,vs,r,f,es,ep,e,c⟩:=x;exact⟨z,y,vs,r,f,es,ep,k _ _ (.inl rfl) e,c⟩
 |cod q=>obtain⟨c,o,vs,t,z,e,r⟩:=x;cases z;exact⟨_,o,vs,t,rfl,k _ _ (.inl rfl) e,r⟩
 |ins C dx fs =>
  obtain⟨d,z,v,e,mA,⟨E,es,ep,i,c⟩,r⟩:=x;exact⟨l _ d,z,v,k _ _ (.inl rfl) e,mA,⟨E,es,ep,k _ _ (.inr d) i,c⟩,r⟩
 |own y=>obtain⟨f,e⟩:=x;exact⟨f,k _ _ (.inl rfl) e⟩
 |frz f u ih=>obtain⟨e,q⟩:=x;exact⟨k _ _ (.inl rfl) e,ih q⟩
 |tbl ps=>obtain⟨pv,e,t,c⟩:=x;exact⟨pv,k _ _ (.inl rfl) e,t,λp hp=>(c p hp).imp id λ⟨c,A,B,i⟩=>⟨c,A,B,j _ _ _ i⟩⟩
 |ext φ=>obtain⟨p,⟨o,e⟩,st⟩:=x;exact⟨st _ _ p λo q=>k _ _ (.inl rfl) q,⟨o,k _ _ (.inl rfl) e⟩,st⟩
theorem HOk.lt(x:HOk P w H h)(e:H a=some o):a<h.objs.size:=(x a o e).lt
def HOk.fresh(x:HOk P w H h)(e:h.objs.size<=a):H a=none:=by
 cases q:H a with
 |none=>rfl
 |some u=>exact absurd (Qaw (x.lt q) e) (Qa9 _)
def HOk.kept(x:HOk P w H h)(k:∀b u,h.get? b=some u->h'.get? b=some u):HOk P w H h':=λa o e =>
 (x a o e).stay (λb u _ q=>k b u q) (λ_ q=>q) λ_ _ q=>q
def HOk.laid(x:HOk P w H h)(k:∀b u,h.get? b=some u->h'.get? b=some u)(hp:h.objs.size<=a)(j:ObjOk P w (upd H a o) h' a o):HOk P w (upd H a o) h':=λb u e=>by
 have f:=x.fresh hp;by_cases i:b=a
 .subst i;rw[bC]at e;cases e;exact j
 .rw[aY i]at e;exact(x b u e).stay (λc v _ q=>k c v q) (λc q=>by rw[aY (bL q f)];exact q) λc xs q=>by rw[aY (bL q f)];exact q
end
def Rd(H:Hp)(a:Af)(u:HO):Prop:=H a=some u\/∃o,H a=some (.frz o u)
def Rd.ok(r:Rd H a u)(x:HOk P w H h):ObjOk P w H h a u:=by
 rcases r with r|⟨o,r⟩
 .exact x a u r
 .obtain⟨_,q⟩:=x a _ r;exact q
def Mut:Aa HO->Prop
 |some (.lst _)=>True
 |some (.dK _)=>True
 |some (.ins _ _ _)=>True
 |some (.ext _)=>True
 |_=>False
section
variable {P:Aj}{w:Ak}{H:Hp}{h h':Ah}{x e:Af}{o':HO}
def HOk.write(ok:HOk P w H h)(i:Mut (H x))(he:e=x\/H e=some (.own x))(k:∀b u,b≠e->h.get? b=some u->h'.get? b=some u)(n:∃u,h'.get? e=some u)
  (o:ObjOk P w (upd H x o') h' x o'):HOk P w (upd H x o') h':=λb u q=>by
 have f:∀c y,H c=some (.own y)->c≠x:=λc y r z=>by subst z;rw[r]at i;exact i
 have l:∀c xs,H c=some (.tup xs)->c≠x:=λc xs r z=>by subst z;rw[r]at i;exact i
 by_cases j:b=x
 .subst j;rw[bC]at q;cases q;exact o
 .rw[aY j]at q;by_cases a:b=e
  .have p:H b=some (.own x):=by
    rcases he with z|z
    .exact absurd (a.trans z) j
    .rw[a];exact z
   rw[q]at p;cases p;obtain⟨v,t⟩:=n;exact⟨v,by rw[a];exact t⟩
  .refine(ok b u q).stay (λc v hc r=>k c v ?_ r) (λc r=>by rw[aY (f c b r)];exact r) λc xs r=>by rw[aY (l c xs r)];exact r
   rcases hc with rfl|hc
   .exact a
   .rintro rfl;rcases he with z|z
    .exact f c b hc z
    .rw[hc]at z;cases z;exact j rfl
end
structure Un(fs ex:List Addr)(H H':Hp)(h h':Heap):Prop where
 keep:∀b o,h.get? b=some o->H b=none->b∉fs->b∉ex->h'.get? b=some o
 slot:∀b o,h.get? b=some o->H b=none->b∈fs->b∉ex->∃sl,h'.get? b=some { o with slots:=sl }
 free:∀b o,h.get? b=some o->H b=none->b∉ex->H' b=none
 there:∀b o,h.get? b=some o->b∉ex->∃o',h'.get? b=some o'
 tups:∀b xs,H b=some (.tup xs)->H' b=some (.tup xs)
 frzs:∀b o u,H b=some (.frz o u)->H' b=some (.frz o u)
 tbls:∀b ps,H b=some (.tbl ps)->∃more,H' b=some (.tbl (ps++more))
section
variable {fs ex:Ab Af}{H H1:Hp}{h h1 h':Ah}{a x e:Af}{o:HO}
def Un.any(u:Un fs ex H H1 h h1){b:Af}{a:Obj}(q:h.get? b=some a)(n:H b=none)(i:b∉ex):∃sl,h1.get? b=some { a with slots:=sl }:=by
 by_cases f:b∈fs
 .exact u.slot b a q n f i
 .exact⟨a.slots,u.keep b a q n f i⟩
def Un.kept(k:∀b u,h.get? b=some u->h'.get? b=some u):Un fs ex H H h h' :=
 ⟨λb ob q _ _ _=>k b ob q,λb ob q _ _ _=>⟨ob.slots,k b ob q⟩,λ_ _ _ n _=>n,λb ob q _=>⟨ob,k b ob q⟩,λ_ _ q=>q,λ_ _ _ q=>q,λ_ ps q=>⟨#[],by rw[q];simp⟩⟩
def Un.refl:Un fs ex H H h h:=Un.kept λ_ _ q=>q
def Un.laid(k:∀b u,h.get? b=some u->h'.get? b=some u)(hp:h.objs.size<=a)(f:H a=none):Un fs ex H (upd H a o) h h' where
 keep:=λb u q _ _ _=>k b u q
 slot:=λb u q _ _ _=>⟨u.slots,k b u q⟩
 free:=λb u q n _=>by rw[aY (QaA (Qaw (Qal q) hp))];exact n
 there:=λb u q _=>⟨u,k b u q⟩
 tups:=λb xs q=>by rw[aY (bL q f)];exact q
 frzs:=λb u xs q=>by rw[aY (bL q f)];exact q
 tbls:=λb ps q=>⟨#[],by rw[aY (bL q f),q];simp⟩
def Un.write(a:Mut (H x))(he:e=x\/H e=some (.own x))(k:∀b u,b≠e->h.get? b=some u->h'.get? b=some u)(j:∃u,h'.get? e=some u):Un fs ex H (upd H x o) h h':=by
 have p:∀b,H b=none->b≠x:=λb n z=>by subst z;rw[n]at a;exact a
 have l:∀b,H b=none->b≠e:=λb n z=>by
  subst z;rcases he with r|r
  .exact p b n r
  .rw[n]at r;cases r
 have i:∀b u,H b=some u->¬Mut (some u)->b≠x:=λb u q nm z=>by subst z;rw[q]at a;exact nm a
 refine⟨λb u q n _ _=>k b u (l b n) q,λb u q n _ _=>⟨u.slots,k b u (l b n) q⟩,λb u q n _=>by rw[aY (p b n)];exact n,λb u q _=>?_,
  λb xs q=>by rw[aY (i b _ q λz=>z)];exact q,λb u xs q=>by rw[aY (i b _ q λz=>z)];exact q,λb ps q=>⟨#[],by rw[aY (i b _ q λz=>z),q];simp⟩⟩
 by_cases f:b=e
 .subst f;exact j
 .exact⟨u,k b u f q⟩
end
def trk(h:Ah)(H:Hp):Ab Af:=(List.range h.objs.size).filter λa=>(H a).isSome
def Z0p(h:Ah)(H:Hp):Ah:=PySem.W.hideAll h (trk h H)
def Z5Q(h:Ah)(H:Hp):(Z0p h H).objs.size=h.objs.size:=PySem.W.hideAll_size _ _
def Z7P(e:h.get? b=some o)(n:H b=none):(Z0p h H).get? b=some o :=
 PySem.W.hideAll_get _ e λa=>by
  have q:(H b).isSome=true:=(List.mem_filter.mp a).2;rw[n]at q;simp at q
def Z9L(e:(Z0p h H).get? b=some o):h.get? b=some o/\H b=none:=by
 have a:h.get? b=some o:=Qbm (trk h H) e;refine⟨a,?_⟩;cases q:H b with
 |none=>rfl
 |some x =>
  have f:b∈trk h H:=List.mem_filter.mpr ⟨List.mem_range.mpr (Qal a),by simp[q]⟩;have z:(Z0p h H).get? b=none:=PySem.W.hideAll_none (trk h H) f;rw[z]at e;cases e
structure Mod(K:Frag)(mg:Str->Option Value)(base:Heap):Prop where
 kin:K.In base
 glob:base.Ns mainGlobals mg
 blt:∃mb,base.Ns builtinsNs mb/\∀x:Str,x ≠ "__name__" -> mb x=bootBuiltins x
 nolimit:base.NoLimit
structure Cx where
 prog:Aj
 w:Ak
 K:Frag
 mg:Str->Aa Ad
 base:Ah
 A:Ai
 N:Ab Str
 s₀:Ac
 H₀:Hp
 env:Env
 outer:Ab Env
 stack:Ab Env
 ex:Ab Af
 fn:Str->Bool
 calm:Bool
 pn:Ab (Af×Obj)
 xe:Ad->Ac->Prop
def frs(l:Ab Env):Ab Af:=l.filterMap (·.frame)
abbrev Cx.fs(X:Cx):Ab Af:=frs X.outer
def Vis(sc:Scope)(x:Str):Prop:=sc.names.lookup x=some .local\/sc.names.lookup x=some .cell\/sc.names.lookup x=some .free
def Loc(sc:Scope)(x:Str):Prop:=sc.names.lookup x=some .local\/sc.names.lookup x=some .cell
def Zek(ac:Env)(h:Ah)(m:Str->Aa Ad)(x:Str)(u:Ad):Prop :=
 (ac.kindOf x=some .local/\m x=some u)\/((ac.kindOf x=some .cell\/ac.kindOf x=some .free)/\∃c,ac.cells.lookup x=some c/\h.IsCell c (some u))
structure Cx.Ok(X:Cx):Prop where
 mod:Mod X.K X.mg X.base
 kind:X.env.scope.kind=.function
 glob:X.env.globals=mainGlobals
 blt:X.env.builtins=builtinsNs
 above:X.s₀.heap.objs.size<=X.env.locals
 inj:∀x y c,X.env.cells.lookup x=some c->X.env.cells.lookup y=some c->x=y
 has:∀x,(X.env.kindOf x=some .cell\/X.env.kindOf x=some .free)->∃c,X.env.cells.lookup x=some c
 cab:∀x c,X.fn x=true->X.env.cells.lookup x=some c->X.s₀.heap.objs.size<=c
 hd:X.calm=true->X.A.handled=none
 frames:X.A.frames=some X.stack
 stk:X.stack=X.outer\/(X.stack=X.env::X.outer/\X.env.frame=some X.env.locals)
 exf:∀b∈X.ex,b≠X.env.locals/\∀x c,X.env.cells.lookup x=some c->c≠b
 bs:∀b o,X.base.get? b=some o->X.s₀.heap.get? b=some o/\X.H₀ b=none
 bsz:X.base.objs.size<=X.s₀.heap.objs.size
 noex:∀b o,X.base.get? b=some o->b∉X.ex
 exfs:∀b∈X.ex,b∉X.fs
 funs:X.s₀.heap.FunFrames X.base X.outer
 frf:∀b∈X.fs,X.H₀ b=none
structure Inv(X:Cx)(pins:List (Addr×Obj))(σ:List (Option V))(H:Hp)(s:Shared):Prop where
 ok:X.Ok
 os:s.os=X.s₀.os
 bare:AllBare s.gens
 base:Un X.fs X.ex X.H₀ H X.s₀.heap s.heap
 loc:∃m,s.heap.Ns X.env.locals m/\∀(i:Nat) (x:Str) (v:V),X.N[i]?=some x->σ[i]?=some (some v)->Vis X.env.scope x->∃u,RelV v u/\Zek X.env s.heap m x u
 cell:∀x c,X.env.cells.lookup x=some c->∃v,s.heap.IsCell c v
 free:H X.env.locals=none
 freeC:∀x c,X.env.cells.lookup x=some c->H c=none
 pin:∀p∈X.pn++pins,s.heap.get? p.1=some p.2/\H p.1=none/\p.1≠X.env.locals/\p.1∉X.fs/\∀v,p.2.data ≠ .cell v
 hok:HOk X.prog X.w H s.heap
 len:σ.length=X.N.length
section
variable {X:Cx}{aa:Ab (Af×Obj)}{σ:Ab (Aa V)}{H H':Hp}{s:Ac}{h':Ah}
def Cx.Ok.nofr(ok:X.Ok){b:Af}{o:Obj}(e:X.base.get? b=some o):b∉X.fs:=λa=>by
 have:=(ok.funs.mem a).1;rw[e]at this;cases this
theorem Inv.bs(I:Inv X aa σ H s):∀b o,X.base.get? b=some o->s.heap.get? b=some o/\H b=none:=λb o e =>
 ⟨I.base.keep b o (I.ok.bs b o e).1 (I.ok.bs b o e).2 (I.ok.nofr e) (I.ok.noex b o e),I.base.free b o (I.ok.bs b o e).1 (I.ok.bs b o e).2 (I.ok.noex b o e)⟩
def Inv.bk(I:Inv X aa σ H s):∀b o,X.base.get? b=some o->s.heap.get? b=some o:=λb o e=>(I.bs b o e).1
theorem Inv.mod(I:Inv X aa σ H s):Mod X.K X.mg X.base:=I.ok.mod
def Inv.kIn(I:Inv X aa σ H s):X.K.In s.heap:=I.ok.mod.kin.keeps I.bk
theorem Inv.lt(I:Inv X aa σ H s):X.env.locals<s.heap.objs.size:=let ⟨_,hn,_⟩:=I.loc;hn.lt
def Inv.sz(I:Inv X aa σ H s):X.s₀.heap.objs.size<=s.heap.objs.size:=Qay I.ok.above (Qbh I.lt)
def Inv.nofs(I:Inv X aa σ H s){a:Af}(h:s.heap.objs.size<=a):a∉X.fs:=λb=>by
 obtain⟨_,o,f,_⟩:=I.ok.funs.mem b;exact absurd (Qaw (Qal f) (Qay I.sz h)) (Qa9 _)
def Inv.cne(I:Inv X aa σ H s):∀x c,X.env.cells.lookup x=some c->c≠X.env.locals:=λx c e z=>by
 obtain⟨v,o,a,hd⟩:=I.cell x c e;obtain⟨m,⟨o',es,ep,f,b,_⟩,_⟩:=I.loc;rw[z,f]at a;cases a;rw[b]at hd;cases hd
theorem Inv.funs(I:Inv X aa σ H s):s.heap.FunFrames X.base X.outer:=by
 have all:∀(l:Ab Env),(∀b∈frs l,b∈X.fs)->X.s₀.heap.FunFrames X.base l->s.heap.FunFrames X.base l:=by
  intro l
  induction l with
  |nil=>intro _ _;trivial
  |cons ac r ih =>
   intro hs n;obtain⟨j,⟨L,o,f,i,h,hd⟩,p⟩:=n;have a:L∈X.fs:=hs L (by unfold frs;rw[Qbt,f];exact Qag);obtain⟨q,e⟩:=I.base.slot L o h (I.ok.frf L a) a λz=>I.ok.exfs L z a;exact⟨j,⟨L,_,f,i,e,hd⟩,ih (λb hb=>hs b (by unfold frs;rw[Qbt,f];exact Qaa _ hb)) p⟩
 exact all X.outer (λ_ hb=>hb) I.ok.funs
theorem Inv.stack(I:Inv X aa σ H s):s.heap.FunFrames X.base X.stack:=by
 rcases I.ok.stk with e|⟨e,hf⟩
 .rw[e];exact I.funs
 .rw[e];obtain⟨m,a,_⟩:=I.loc;refine .cons (by rw[I.ok.kind];decide) hf a ?_ I.funs;exact Heap.get?_none_of_le (Qay I.ok.bsz I.ok.above)
def Inv.stkSub(I:Inv X aa σ H s):∀b∈frs X.stack,b∈X.env.locals::X.fs:=λb hb=>by
 rcases I.ok.stk with e|⟨e,hf⟩
 .rw[e]at hb;exact Qaa _ hb
 .rw[e]at hb;unfold frs at hb;rw[Qbt,hf]at hb;exact hb
def Inv.stkFree(I:Inv X aa σ H s):∀b∈frs X.stack,H b=none:=λb hb=>by
 rcases Qab.mp (I.stkSub b hb)with e|hb
 .rw[e];exact I.free
 .obtain⟨_,o,a,_⟩:=I.ok.funs.mem hb;exact I.base.free b o a (I.ok.frf b hb) λz=>I.ok.exfs b z hb
def Inv.step{g':Ae GenState}{t':Nat}{d':Drawn}{ch:Ab Af}(I:Inv X aa σ H s)
  (h:∀b∈ch,(b∈X.ex\/X.s₀.heap.objs.size<=b)/\b≠X.env.locals/\(∀x c,X.env.cells.lookup x=some c->c≠b)/\∀p∈X.pn++aa,p.1≠b)
  (keep:∀b o,b≠X.env.locals->b∉X.fs->b∉ch->s.heap.get? b=some o->H b=none->h'.get? b=some o)
  (B:∀b o,b≠X.env.locals->b∈X.fs->b∉ch->s.heap.get? b=some o->H b=none->∃J,h'.get? b=some { o with slots:=J }) (free:∀b o,b∉ch->s.heap.get? b=some o->H b=none->H' b=none)
  (C:∀b o,b∉ch->s.heap.get? b=some o->∃o',h'.get? b=some o')
  (F:∀b xs,H b=some (.tup xs)->H' b=some (.tup xs)) (G:∀b o u,H b=some (.frz o u)->H' b=some (.frz o u)) (K:∀b ps,H b=some (.tbl ps)->∃more,H' b=some (.tbl (ps++more)))
  (ns:∀m,s.heap.Ns X.env.locals m->h'.Ns X.env.locals m) (O:HOk X.prog X.w H' h') (P:AllBare g') :
  Inv X aa σ H' { s with heap:=h',gens:=g',drawn:=d',toks:=t' }:=by
 have E:∀b o,X.s₀.heap.get? b=some o->b≠X.env.locals:=λb o e=>QaA (Qaw (Qal e) I.ok.above);have t:∀b o,X.s₀.heap.get? b=some o->b∉X.ex->b∉ch:=λb o e hx hb=>by
  rcases (h b hb).1 with z|z
  .exact hx z
  .exact absurd (Qaw (Qal e) z) (Qa9 _)
 have j:∀x c,X.env.cells.lookup x=some c->∀v,s.heap.IsCell c v->h'.IsCell c v:=λx c e v ⟨o,y,hd⟩=>by
  have f:c∉ch:=λz=>(h c z).2.2.1 x c e rfl;by_cases hc:c∈X.fs
  .obtain⟨J,q⟩:=B c o (I.cne x c e) hc f y (I.freeC x c e);exact⟨_,q,hd⟩
  .exact⟨o,keep c o (I.cne x c e) hc f y (I.freeC x c e),hd⟩
 refine⟨I.ok,I.os,P,⟨λb o e n hb hx=>?_,λb o e n hb hx=>?_,λb o e n hx=>?_,λb o e hx=>?_,λb xs e=>F b xs (I.base.tups b xs e),λb o xs e=>G b o xs (I.base.frzs b o xs e),λb ps e=>?_⟩,?_,λx c e=>?_,?_,λx c e=>?_,λp hp=>?_,O,I.len⟩
 .exact keep b o (E b o e) hb (t b o e hx) (I.base.keep b o e n hb hx) (I.base.free b o e n hx)
 .obtain⟨J,a⟩:=I.base.slot b o e n hb hx;obtain⟨M,A⟩:=B b _ (E b o e) hb (t b o e hx) a (I.base.free b o e n hx);exact⟨M,A⟩
 .obtain⟨o',a⟩:=I.base.there b o e hx;exact free b o' (t b o e hx) a (I.base.free b o e n hx)
 .obtain⟨o',a⟩:=I.base.there b o e hx;exact C b o' (t b o e hx) a
 .obtain⟨m1,a⟩:=I.base.tbls b ps e;obtain⟨m2,A⟩:=K b _ a;exact⟨m1++m2,by rw[A,Array.append_assoc]⟩
 .obtain⟨m,R,Q⟩:=I.loc;refine⟨m,ns m R,λi x v a A e3=>?_⟩;obtain⟨u,r,l⟩:=Q i x v a A e3;refine⟨u,r,?_⟩;rcases l with l|⟨k,c,e,z⟩
  .exact .inl l
  .exact .inr ⟨k,c,e,j x c e _ z⟩
 .obtain⟨v,z⟩:=I.cell x c e;exact⟨v,j x c e v z⟩
 .obtain⟨m,⟨o,_,_,y,_⟩,_⟩:=I.loc;exact free _ o (λz=>(h _ z).2.1 rfl) y I.free
 .obtain⟨v,o,y,hd⟩:=I.cell x c e;exact free c o (λz=>(h c z).2.2.1 x c e rfl) y (I.freeC x c e)
 .obtain⟨e,n,L,N,d⟩:=I.pin p hp;have f:p.1∉ch:=λz=>(h p.1 z).2.2.2 p hp rfl;exact⟨keep p.1 p.2 L N f e n,free p.1 p.2 f e n,L,N,d⟩
def Inv.un{t':Nat}(I:Inv X aa σ H s)(u:Un X.fs [] H H' s.heap h')(j:HOk X.prog X.w H' h'):Inv X aa σ H' { s with heap:=h',toks:=t' }:=by
 obtain⟨m,⟨o,es,ep,f,r⟩,_⟩:=id I.loc;obtain⟨q,p⟩:=u.any f I.free (by simp);exact I.step (g':=s.gens) (d':=s.drawn) (ch:=[]) (λ_ z=>nomatch z) (λb o _ hb _ e n=>u.keep b o e n hb (by simp)) (λb o _ hb _ e n=>u.slot b o e n hb (by simp)) (λb o _ e n=>u.free b o e n (by simp)) (λb o _ e=>u.there b o e (by simp)) u.tups u.frzs u.tbls (λm' hm=>by
  obtain⟨o',i,h,a,l⟩:=hm;rw[f]at a;cases a;exact⟨_,i,h,p,l⟩) j I.bare
def Inv.call{g':Ae GenState}{t':Nat}{d':Drawn}{ch:Ab Af}(I:Inv X aa σ H s)(u:Un (frs X.stack) ch H H' s.heap h')(q:HOk X.prog X.w H' h')(v:AllBare g')
  (a:∀b∈ch,(b∈X.ex\/X.s₀.heap.objs.size<=b)/\b≠X.env.locals/\(∀x c,X.env.cells.lookup x=some c->c≠b)/\∀p∈X.pn++aa,p.1≠b) :
  Inv X aa σ H' { s with heap:=h',gens:=g',drawn:=d',toks:=t' }:=by
 obtain⟨m,⟨o,es,ep,i,r⟩,_⟩:=id I.loc;obtain⟨y,h⟩:=u.any i I.free λz=>(a _ z).2.1 rfl;exact I.step (ch:=ch) a (λb o h hb hc e n=>u.keep b o e n (λz=>(Qab.mp (I.stkSub b z)).elim h hb) hc) (λb o _ _ hc e n=>u.any e n hc) (λb o hc e n=>u.free b o e n hc) (λb o hc e=>u.there b o e hc) u.tups u.frzs u.tbls (λm' hm=>by
  obtain⟨o',l,j,f,t⟩:=hm;rw[i]at f;cases f;exact⟨_,l,j,h,t⟩) q v
def Inv.turned{t':Nat}{it:Af}(I:Inv X aa σ H s)(k:∀b o,b≠it->s.heap.get? b=some o->h'.get? b=some o)(i:H it=none)(f:it≠X.env.locals)
  (h1:it∈X.ex\/X.s₀.heap.objs.size<=it) (h2:∀x c,X.env.cells.lookup x=some c->c≠it) (h3:∀p∈X.pn++aa,p.1≠it):Inv X aa σ H { s with heap:=h',toks:=t' }:=by
 have a:∀b u,H b=some u->b≠it:=λb u e z=>by rw[z,i]at e;cases e
 refine I.step (g':=s.gens) (d':=s.drawn) (ch:=[it]) (λb hb=>?_) (λb o _ _ hc e _=>k b o (λz=>hc (by simp[z])) e) (λb o _ _ hc e _=>⟨o.slots,k b o (λz=>hc (by simp[z])) e⟩) (λ_ _ _ _ n=>n)
  (λb o hc e=>⟨o,k b o (λz=>hc (by simp[z])) e⟩) (λ_ _ e=>e) (λ_ _ _ e=>e) (λb ps e=>⟨#[],by rw[e];simp⟩) (λm hm=>?_) (λb u e=>?_) I.bare
 .have e:b=it:=by simpa using hb
  subst e;exact⟨h1,f,h2,h3⟩
 .obtain⟨o,es,ep,h,r⟩:=hm;exact⟨o,es,ep,k _ o (Ne.symm f) h,r⟩
 .refine(I.hok b u e).stay (λc v hc q=>k c v ?_ q) (λ_ q=>q) λ_ _ q=>q;rcases hc with z|z
  .rw[z];exact a b u e
  .exact a c _ z
def Inv.tok(I:Inv X aa σ H s)(t:Nat):Inv X aa σ H { s with toks:=t }:=I.un (h':=s.heap) (t':=t) Un.refl I.hok
theorem Inv.kept(I:Inv X aa σ H s)(k:∀b u,s.heap.get? b=some u->h'.get? b=some u):Inv X aa σ H { s with heap:=h',toks:=t' }:=I.un (Un.kept k) (I.hok.kept k)
theorem Inv.laid(I:Inv X aa σ H s)(k:∀b u,s.heap.get? b=some u->h'.get? b=some u)(hp:s.heap.objs.size<=a)(f:ObjOk X.prog X.w (upd H a o) h' a o) :
  Inv X aa σ (upd H a o) { s with heap:=h',toks:=t' }:=I.un (Un.laid k hp (I.hok.fresh hp)) (I.hok.laid k hp f)
theorem Inv.write(I:Inv X aa σ H s)(f:Mut (H x))(he:e=x\/H e=some (.own x))(k:∀b u,b≠e->s.heap.get? b=some u->h'.get? b=some u)(a:∃u,h'.get? e=some u)
  (h:ObjOk X.prog X.w (upd H x o) h' x o):Inv X aa σ (upd H x o) { s with heap:=h',toks:=t' }:=I.un (Un.write f he k a) (I.hok.write f he k a h)
def Inv.weak(I:Inv X aa σ H s)(a:σ'.length=σ.length)(w:∀(i:Nat) v,σ'[i]?=some (some v)->σ[i]?=some (some v)):Inv X aa σ' H s :=
 ⟨I.ok,I.os,I.bare,I.base,let ⟨m,hn,hl'⟩:=I.loc;⟨m,hn,λi x v e1 e2 e3=>hl' i x v e1 (w i v e2) e3⟩,I.cell,I.free,I.freeC,I.pin,I.hok,a.trans I.len⟩
def Inv.pins_of(I:Inv X aa σ H s)(h:∀p∈pins',s.heap.get? p.1=some p.2/\H p.1=none/\p.1≠X.env.locals/\p.1∉X.fs/\∀v,p.2.data ≠ .cell v):Inv X pins' σ H s :=
 ⟨I.ok,I.os,I.bare,I.base,I.loc,I.cell,I.free,I.freeC,λp hp=>(Qaf.mp hp).elim (λz=>I.pin p (Qar _ z)) (h p),I.hok,I.len⟩
def J3{N:Ab Str}(l:N.Nodup){i j:Nat}{x:Str}(a:N[i]?=some x)(b:N[j]?=some x):i=j:=by
 obtain⟨h1,f⟩:=Qah.mp a;obtain⟨h2,h⟩:=Qah.mp b;exact(List.getElem_inj l).mp (f.trans h.symm)
def xE(I:Inv X aa σ H s)(hN:X.N.Nodup)(hi:X.N[i]?=some x)(l:Loc X.env.scope x)(r:RelV v u)
  (h:∀s',Inv X aa (σ.set i (some v)) H s'->(∃a,Heap.SameBut a s.heap s'.heap/\(a=X.env.locals\/X.env.cells.lookup x=some a))->Q () s') (hf:X.fn x=true\/X.env.scope.names.lookup x=some .local:=by first|exact .inl rfl|exact .inr rfl|assumption):wpAny M A (storeName X.env x u) Q E s:=by
 obtain⟨m,T,Z⟩:=id I.loc;have O:(X.env.scope.kind == .class||(X.env.scope.kind == .module&&X.env.locals != X.env.globals))=false:=by rw[I.ok.kind];rfl
 have F:i<σ.length:=by rw[I.len];exact(Qah.mp hi).1
 have cne:=I.cne;have t:∀{a:Af}{h':Ah},(∃o,s.heap.get? a=some o/\H a=none)->Heap.SameBut a s.heap h'->HOk X.prog X.w H h':=λ{a h'} ha hs b ob e=>by
  obtain⟨_,_,C⟩:=ha;refine(I.hok b ob e).stay (λc w' hc q=>(hs.2 c ?_).trans q) (λ_ q=>q) λ_ _ q=>q;rintro rfl;rcases hc with rfl|hc
  .rw[C]at e;cases e
  .rw[C]at hc;cases hc
 rcases l with hk|hk
 .refine wpAny_storeName_local hk T (λh' hn' hs=>?_) O;obtain⟨oL,_,_,a0,_⟩:=id T;refine h _ ⟨I.ok,I.os,I.bare,⟨λb o e n hb l=>?_,λb o e n hb l=>?_,I.base.free,λb o e l=>?_,I.base.tups,I.base.frzs,I.base.tbls⟩,⟨_,hn',λj y v' f e2 e3=>?_⟩,λy c e=>?_,I.free,I.freeC,λp hp=>?_,t ⟨oL,a0,I.free⟩ hs,by simpa using I.len⟩ ⟨_,hs,.inl rfl⟩
  .exact(hs.2 b (QaA (Qaw (Qal e) I.ok.above))).trans (I.base.keep b o e n hb l)
  .obtain⟨U,f⟩:=I.base.slot b o e n hb l;exact⟨U,(hs.2 b (QaA (Qaw (Qal e) I.ok.above))).trans f⟩
  .obtain⟨o',f⟩:=I.base.there b o e l;exact⟨o',(hs.2 b (QaA (Qaw (Qal e) I.ok.above))).trans f⟩
  .by_cases B:j=i
   .subst B;rw[hi]at f;cases f;rw[QaC F]at e2;cases e2;exact⟨u,r,.inl ⟨hk,by simp⟩⟩
   .rw[Qao (Ne.symm B)]at e2;obtain⟨R,P,q⟩:=Z j y v' f e2 e3;refine⟨R,P,?_⟩;rcases q with⟨k,e⟩|⟨k,c,e,z⟩
    .refine .inl ⟨k,?_⟩;have:y≠x:=λe=>B (J3 hN f (e ▸ hi));simp[this,e]
    .exact .inr ⟨k,c,e,z.sameBut hs (cne y c e)⟩
  .obtain⟨w',z⟩:=I.cell y c e;exact⟨w',z.sameBut hs (cne y c e)⟩
  .obtain⟨e,n,J,W,d⟩:=I.pin p hp;exact⟨(hs.2 p.1 J).trans e,n,J,W,d⟩
 .have G:X.fn x=true:=by
   rcases hf with z|z
   .exact z
   .rw[z]at hk;cases hk
  obtain⟨c,hc⟩:=I.ok.has x (.inl hk);obtain⟨w',z⟩:=I.cell x c hc;refine wpAny_storeName_cell I.ok.kind hk hc z (λh' hc' hs=>?_);obtain⟨Y,K,S⟩:=id z;refine h { s with heap:=h' } ⟨I.ok,I.os,I.bare,⟨λb o e n hb l=>?_,λb o e n hb l=>?_,I.base.free,λb o e l=>?_,I.base.tups,I.base.frzs,I.base.tbls⟩,⟨m,T.sameBut hs (Ne.symm (cne x c hc)),λj y v' f e2 e3=>?_⟩,λy c' e=>?_,I.free,I.freeC,λp hp=>?_,t ⟨Y,K,I.freeC x c hc⟩ hs,by simpa using I.len⟩ ⟨c,hs,.inr hc⟩
  .exact(hs.2 b (QaA (Qaw (Qal e) (I.ok.cab x c G hc)))).trans (I.base.keep b o e n hb l)
  .obtain⟨U,f⟩:=I.base.slot b o e n hb l;exact⟨U,(hs.2 b (QaA (Qaw (Qal e) (I.ok.cab x c G hc)))).trans f⟩
  .obtain⟨o',f⟩:=I.base.there b o e l;exact⟨o',(hs.2 b (QaA (Qaw (Qal e) (I.ok.cab x c G hc)))).trans f⟩
  .by_cases B:j=i
   .subst B;rw[hi]at f;cases f;rw[QaC F]at e2;cases e2;exact⟨u,r,.inr ⟨.inl hk,c,hc,hc'⟩⟩
   .rw[Qao (Ne.symm B)]at e2;obtain⟨R,P,q⟩:=Z j y v' f e2 e3;refine⟨R,P,?_⟩;rcases q with q|⟨k,c',e,z'⟩
    .exact .inl q
    .refine .inr ⟨k,c',e,z'.sameBut hs ?_⟩;rintro rfl;exact B (J3 hN f (I.ok.inj _ _ _ e hc ▸ hi))
  .by_cases L:c'=c
   .subst L;exact⟨_,hc'⟩
   .obtain⟨w2,z2⟩:=I.cell y c' e;exact⟨w2,z2.sameBut hs L⟩
  .obtain⟨e,n,J,W,d⟩:=I.pin p hp;refine⟨(hs.2 p.1 ?_).trans e,n,J,W,d⟩;intro q;rw[q,K]at e;have q':Y=p.2:=QaF e;exact d w' (by rw[<- q'];exact S)
def oA(I:Inv X aa σ H s)(a:X.N.Nodup)(hi:X.N[i]?=some x)(f:Loc X.env.scope x)(r:RelV v u)
  (h:∀s',Inv X aa (σ.set i (some v)) H s'->Q () s') (b:X.fn x=true\/X.env.scope.names.lookup x=some .local:=by first|exact .inl rfl|exact .inr rfl|assumption):wpAny M A (storeName X.env x u) Q E s :=
 xE I a hi f r (λs' I' _=>h s' I') b
def Inv.call'(I:Inv X aa σ H s)(h:s'.os=s.os)(u:Un (frs X.stack) ch H H' s.heap s'.heap)(f:HOk X.prog X.w H' s'.heap)(i:AllBare s'.gens)
  (a:∀b∈ch,(b∈X.ex\/X.s₀.heap.objs.size<=b)/\b≠X.env.locals/\(∀x c,X.env.cells.lookup x=some c->c≠b)/\∀p∈X.pn++aa,p.1≠b):Inv X aa σ H' s':=by
 obtain⟨h',g',d',t',o'⟩:=s';have e:o'=s.os:=h;subst e;exact I.call (g':=g') (t':=t') (d':=d') u f i a
end
abbrev XK:=Ad->Aa Af->Hp->Prop
abbrev St:=Ab (Aa V)
abbrev VK:=V->Hp->Prop
abbrev TE:=St->Hp->VK->Prop
abbrev TT:=St->Hp->(Bool->Hp->Prop)->Prop
abbrev TA:=St->Hp->(Ab V->Hp->Prop)->Prop
structure yP where
 nx:St->Hp->Prop
 rt:VK
 bk:St->Hp->Prop:=λ_ _=>False
 ct:St->Hp->Prop:=λ_ _=>False
abbrev TS:=yP->St->Hp->Prop
def EP(X:Cx)(aa:Ab (Af×Obj))(σ:St)(Q:VK)(u:Ad)(s':Ac):Prop:=∃v H',Inv X aa σ H' s'/\RelV v u/\Q v H'
def TP(X:Cx)(aa:Ab (Af×Obj))(σ:St)(Q:Bool->Hp->Prop)(b:Bool)(s':Ac):Prop:=∃H',Inv X aa σ H' s'/\Q b H'
def AP(X:Cx)(aa:Ab (Af×Obj))(σ:St)(Q:Ab V->Hp->Prop)(us:Ab Ad)(s':Ac):Prop:=∃vs H',Inv X aa σ H' s'/\Vals vs us/\Q vs H'
def SP(X:Cx)(aa:Ab (Af×Obj))(D:yP)(f:Flow)(s':Ac):Prop :=
 match f with
 | .next=>∃σ' H',Inv X aa σ' H' s'/\D.nx σ' H'
 | .brk=>∃σ' H',Inv X aa σ' H' s'/\D.bk σ' H'
 | .cont=>∃σ' H',Inv X aa σ' H' s'/\D.ct σ' H'
 | .ret u=>∃v σ' H',Inv X aa σ' H' s'/\RelV v u/\D.rt v H'
def PE(X:Cx)(e:Ag)(t:TE):Prop :=
 ∀(aa:Ab (Af×Obj)) (s:Ac) (σ:St) (H:Hp) (Q:VK),Inv X aa σ H s->t σ H Q->wpAny (model X.prog X.w) X.A (eval e X.env) (EP X aa σ Q) X.xe s
def PT(X:Cx)(e:Ag)(t:TT):Prop :=
 ∀(aa:Ab (Af×Obj)) (s:Ac) (σ:St) (H:Hp) (Q:Bool->Hp->Prop),Inv X aa σ H s->t σ H Q->wpAny (model X.prog X.w) X.A (isTrue e X.env (eval e X.env)) (TP X aa σ Q) X.xe s
def PW(X:Cx)(e:Ag)(t:TT):Prop :=
 ∀(whole:Sem Ad) (aa:Ab (Af×Obj)) (s:Ac) (σ:St) (H:Hp) (Q:Bool->Hp->Prop),Inv X aa σ H s->t σ H Q->wpAny (model X.prog X.w) X.A (isTrue e X.env whole) (TP X aa σ Q) X.xe s
def PW.pt(h:PW X e t):PT X e t:=h _
def PA(X:Cx)(es:Ab Ag)(t:TA):Prop :=
 ∀(ai:Pos) (aa:Ab (Af×Obj)) (s:Ac) (σ:St) (H:Hp) (Q:Ab V->Hp->Prop),Inv X aa σ H s->t σ H Q->wpAny (model X.prog X.w) X.A (spliced (backTo ai (starEach es X.env))) (AP X aa σ Q) X.xe s
def PS(X:Cx)(st:Stmt)(t:TS):Prop :=
 ∀(aa:Ab (Af×Obj)) (s:Ac) (σ:St) (H:Hp) (D:yP),Inv X aa σ H s->t D σ H->wpAny (model X.prog X.w) X.A (exec st X.env) (SP X aa D) X.xe s
def PSs(X:Cx)(st:Ab Stmt)(t:TS):Prop :=
 ∀(aa:Ab (Af×Obj)) (s:Ac) (σ:St) (H:Hp) (D:yP),Inv X aa σ H s->t D σ H->wpAny (model X.prog X.w) X.A (execs st X.env) (SP X aa D) X.xe s
def thn(h:wpAny M A t Q E s)(b:∀a s,Q a s->Q' a s):wpAny M A t Q' E s:=Rc h b λ_ _ x=>x
section
variable {X:Cx}
def X1(i:Nat):TE:=λσ H Q=>∃v,σ[i]?=some (some v)/\Q v H
def tC(v:V):TE:=λ_ H Q=>Q v H
def mL(p:X.N[i]?=some x)(q:Vis X.env.scope x)(hd:nDb x:=by decide)(j:(x==("__classdict__" : Str))=false:=by decide):PE X (.Name x ai) (X1 i):=by
 intro aa s σ H Q I h;obtain⟨v,e,h⟩:=h;obtain⟨m,o,t⟩:=I.loc;obtain⟨u,r,l⟩:=t i x v p e q;have f:EP X aa σ Q u s:=⟨v,H,I,r,h⟩;rcases l with⟨a,n⟩|⟨a,c,hc,b⟩
 .exact wpAny_Name (wpAny_loadName_local I.ok.kind a o n f) hd
 .rcases a with a|a
  .exact wpAny_Name (wpAny_loadName_cell I.ok.kind a hc b f) hd
  .exact wpAny_Name (wpAny_loadName_free I.ok.kind a hc b f j) hd
def pe_int:PE X (.Constant (.int i) j ai) (tC (.int i)):=λ_ _ _ H _ I h=>wpAny_Constant_int ⟨.int i,H,I.tok _,⟨_,rfl⟩,h⟩
def Zd6:PE X (.Constant (.bool b) j ai) (tC (.bl b)):=λ_ _ _ H _ I h=>Constant_bool ⟨.bl b,H,I,rfl,h⟩
def ZbQ:PE X (.Constant .none j ai) (tC .non):=λ_ _ _ H _ I h=>Constant_none ⟨.non,H,I,rfl,h⟩
def Z7n:PE X (.Constant (.str x) j ai) (tC (.str x)):=λ_ _ _ H _ I h=>Calls.Constant_str ⟨.str x,H,I.tok _,⟨_,rfl⟩,h⟩
def Gl(X:Cx)(x:Str):Prop:=X.env.kindOf x=some .globalImplicit
def B5(I:Inv X aa σ H s)(b:Gl X x)(a:X.mg x=some u)(h:Q u s)
  (hd:nDb x:=by decide):wpAny (model X.prog X.w) X.A (eval (.Name x ai) X.env) Q E s :=
 Calls.Name_function_global I.ok.kind b (Calls.loadGlobal_global (by rw[I.ok.glob];exact I.mod.glob.keeps I.bk) a h) hd
def uU(I:Inv X aa σ H s)(a:Gl X x)(f:X.mg x=none)(i:bootBuiltins x=some u)(h:Q u s)
  (b:x ≠ "__name__":=by decide) (hd:nDb x:=by decide):wpAny (model X.prog X.w) X.A (eval (.Name x ai) X.env) Q E s:=by
 obtain⟨j,h1,h2⟩:=I.mod.blt;exact Calls.Name_function_global I.ok.kind a (Calls.loadGlobal_builtin (by rw[I.ok.glob];exact I.mod.glob.keeps I.bk) f (by rw[I.ok.blt];exact h1.keeps I.bk) ((h2 x b).trans i) h) hd
def sO(a:Gl X x)(b:X.mg x=some u)(r:RelV v u)(hd:nDb x:=by decide):PE X (.Name x ai) (tC v) :=
 λ_ _ _ H _ I h=>B5 I a b ⟨v,H,I,r,h⟩ hd
def Z4e(i:Gl X x)(b:X.mg x=none)(f:bootBuiltins x=some u)(r:RelV v u)(a:x ≠ "__name__":=by decide)(hd:nDb x:=by decide):PE X (.Name x ai) (tC v) :=
 λ_ _ _ H _ I h=>uU I i b f ⟨v,H,I,r,h⟩ a hd
variable {a b:Ag}{ta tb:TE}{ai:Pos}
def PC(X:Cx)(op:CmpOp)(a b:Ag)(t:TE):Prop :=
 ∀(aa:Ab (Af×Obj)) (s:Ac) (σ:St) (H:Hp) (Q:VK),Inv X aa σ H s->t σ H Q ->
  wpAny (model X.prog X.w) X.A (eval a X.env) (λv s₁=>wpAny (model X.prog X.w) X.A (eval b X.env) (λu s₂=>wpAny (model X.prog X.w) X.A (compareOp op v u) (EP X aa σ Q) X.xe s₂) X.xe s₁) X.xe s
def tB(t:TE):TT:=λσ H Q=>t σ H λx H1=>∃c,x=.bl c/\Q c H1
def pt_cmp(h:PC X op a b t)(h1:behindInMarks op b=false:=by first|exact nobehind _ (by decide) (by decide)|rfl):PT X (.Compare a [op] [b] ai) (tB t):=by
 intro aa s σ H Q I hw;refine wpAny_isTrue_Compare1 (thn (h aa s σ H _ I hw) λv s1 h1=>thn h1 λu s2 h2=>thn h2 λc s3 ⟨x,H1,I1,r1,q1⟩=>?_) h1;obtain⟨d,rfl,q⟩:=q1;cases r1;exact wpAny_truthy_bool ⟨H1,I1,q⟩
def ZbK(h:PE X e t)(he:∀whole,isTrue e X.env whole=(do let v <- whole;standAt e.pos;holding [v] (truthy v)):=by intro _;rfl):PT X e (tB t):=by
 intro aa s σ H Q I hw;refine isTrue_plain (thn (h aa s σ H _ I hw) λv s1 ⟨x,H1,I1,r1,q1⟩=>?_) (he _);obtain⟨d,rfl,q⟩:=q1;cases r1;exact wpAny_truthy_bool ⟨H1,I1,q⟩
variable {tA tB':TT}{rest:Ab Ag}
def ZdX(t u:TT):TT:=λσ H Q=>t σ H λc H1=>if c=true then u σ H1 Q else Q false H1
def tOr(t u:TT):TT:=λσ H Q=>t σ H λc H1=>if c=true then Q true H1 else u σ H1 Q
def ZdQ(t:TT):TT:=λσ H Q=>t σ H λc H1=>Q (!c) H1
def Z49(b:PT X a tA):PW X (.BoolOp .And [a] ai) tA:=by
 intro f aa s σ H Q I h;refine isTrue_and (thn (b aa s σ H Q I h) λc s1 e=>?_);cases c with
 |true=>exact isTrue_and_nil e
 |false=>exact e
def ZbJ(b:PT X a tA):PW X (.BoolOp .Or [a] ai) tA:=by
 intro f aa s σ H Q I h;refine isTrue_or (thn (b aa s σ H Q I h) λc s1 e=>?_);cases c with
 |false=>exact isTrue_or_nil e
 |true=>exact e
def Z79(f:PT X a tA)(j:PW X (.BoolOp .And (b::rest) ai) tB'):PW X (.BoolOp .And (a::b::rest) ai) (ZdX tA tB'):=by
 intro i aa s σ H Q I h;refine isTrue_and (thn (f aa s σ H _ I h) λc s1 ⟨H1,I1,q1⟩=>?_);cases c with
 |true=>exact j i aa s1 σ H1 Q I1 q1
 |false=>exact⟨H1,I1,q1⟩
def Zd3(f:PT X a tA)(j:PW X (.BoolOp .Or (b::rest) ai) tB'):PW X (.BoolOp .Or (a::b::rest) ai) (tOr tA tB'):=by
 intro i aa s σ H Q I h;refine isTrue_or (thn (f aa s σ H _ I h) λc s1 ⟨H1,I1,q1⟩=>?_);cases c with
 |true=>exact⟨H1,I1,q1⟩
 |false=>exact j i aa s1 σ H1 Q I1 q1
def pt_not(b:PT X a tA):PT X (.UnaryOp .Not a ai) (ZdQ tA):=by
 intro aa s σ H Q I h;exact isTrue_not (b aa s σ H (λc H1=>Q (!c) H1) I h)
def ZcM(ta tb:TE):TE:=λσ H Q=>ta σ H λx H1=>∃c,x=.bl c/\if c=true then tb σ H1 Q else Q (.bl false) H1
def ZdP(ta tb:TE):TE:=λσ H Q=>ta σ H λx H1=>∃c,x=.bl c/\if c=true then Q (.bl true) H1 else tb σ H1 Q
def ZbP(h:PE X a t):PE X (.BoolOp op [a] ai) t:=λaa s σ H Q I hw=>BoolOp_one (h aa s σ H Q I hw)
def pe_and(i:PE X a ta)(j:PE X (.BoolOp .And (b::rest) ai) tb):PE X (.BoolOp .And (a::b::rest) ai) (ZcM ta tb):=by
 intro aa s σ H Q I h;refine BoolOp_and (thn (i aa s σ H _ I h) λv s1 ⟨x,H1,I1,r1,f⟩=>?_);obtain⟨c,rfl,f⟩:=f;cases r1;refine wpAny_truthy_bool ?_;cases c with
 |true=>exact j aa s1 σ H1 Q I1 f
 |false=>exact⟨.bl false,H1,I1,rfl,f⟩
def pe_or(i:PE X a ta)(j:PE X (.BoolOp .Or (b::rest) ai) tb):PE X (.BoolOp .Or (a::b::rest) ai) (ZdP ta tb):=by
 intro aa s σ H Q I h;refine BoolOp_or (thn (i aa s σ H _ I h) λv s1 ⟨x,H1,I1,r1,f⟩=>?_);obtain⟨c,rfl,f⟩:=f;cases r1;refine wpAny_truthy_bool ?_;cases c with
 |false=>exact j aa s1 σ H1 Q I1 f
 |true=>exact⟨.bl true,H1,I1,rfl,f⟩
def tIf(t:TT)(ta tb:TE):TE:=λσ H Q=>t σ H λc H1=>if c=true then ta σ H1 Q else tb σ H1 Q
def pe_ifExp(hc:PT X c tA)(f:PE X a ta)(i:PE X b tb):PE X (.IfExp c a b ai) (tIf tA ta tb):=by
 intro aa s σ H Q I h;refine wpAny_IfExp (thn (hc aa s σ H _ I h) λd s1 ⟨H1,I1,q1⟩=>?_);cases d with
 |true=>exact f aa s1 σ H1 Q I1 q1
 |false=>exact i aa s1 σ H1 Q I1 q1
end
def SqL(K:Frag)(H:Hp)(a:Af)(xs:Ab V):Prop :=
 Rd H a (.lst xs) \/
  ∃(o:Obj) (ak:Ae Ad) (n:Nat),K.lookup a=some o/\o.cls=.type "list" /\ o.dict=none/\o.data=.seq ak n/\ak.size<=sizeLine/\Vals xs ak.toList
def SqT(K:Frag)(H:Hp)(a:Af)(xs:Ab V):Prop :=
 Rd H a (.tup xs) \/
  ∃(o:Obj) (ak:Ae Ad) (n:Nat),K.lookup a=some o/\o.cls=.type "tuple" /\ o.data=.seq ak n/\ak.size<=sizeLine/\Vals xs ak.toList
def Zei:Ad->Aa V
 | .none=>some .non
 | .bool b=>some (.bl b)
 | .int i _=>some (.int i)
 | .str x _=>some (.str x)
 | .bytes b _=>some (.byt b)
 | .float b _=>some (.flt b)
 | .ref a=>some (.ref a)
 | .type n=>some (.ty n)
 |_=>none
def RelV.abs(r:RelV x u):Zei u=some x:=by
 cases x with
 |non=>cases r;rfl
 |bl _=>cases r;rfl
 |int _=>obtain⟨t,rfl⟩:=r;rfl
 |str _=>obtain⟨t,rfl⟩:=r;rfl
 |byt _=>obtain⟨t,rfl⟩:=r;rfl
 |flt _=>obtain⟨t,rfl⟩:=r;rfl
 |ref _=>cases r;rfl
 |ty _=>cases r;rfl
def RelV.inj(r:RelV x u)(q:RelV y u):x=y:=QaF (r.abs.symm.trans q.abs)
theorem Vals.inj:∀{xs ys:Ab V}{us:Ab Ad},Vals xs us->Vals ys us->xs=ys
 |_,_,_,.nil,.nil=>rfl
 |_,_,_,.cons r t,.cons r' t'=>by rw[r.inj r',Vals.inj t t']
section
variable {X:Cx}{aa:Ab (Af×Obj)}{σ:St}{H:Hp}{s:Ac}{a:Af}{xs ys:Ab V}
def SqL.of{K:Frag}(h:H a=some (.lst xs)):SqL K H a xs:=.inl (.inl h)
def SqT.of{K:Frag}(h:H a=some (.tup xs)):SqT K H a xs:=.inl (.inl h)
def Inv.list(I:Inv X aa σ H s)(h:SqL X.K H a xs):∃ak:Ab Ad,Vals xs ak/\PlainL s.heap a ak.toArray/\xs.length<=sizeLine:=by
 rcases h with h|⟨o,ak,n,hk,hc,hd,hs,hz,r⟩
 .obtain⟨z,ak,n,r,e⟩:=h.ok I.hok;exact⟨ak,r,⟨_,n,e,rfl,rfl,rfl⟩,z⟩
 .refine⟨ak.toList,r,⟨o,n,I.kIn a o hk,hc,hd,by simpa using hs⟩,?_⟩;have e:=r.length;simp only[Qbj]at e;omega
def Inv.tuple(I:Inv X aa σ H s)(h:SqT X.K H a xs):∃ak:Ab Ad,Vals xs ak/\IsTup s.heap a ak.toArray/\xs.length<=sizeLine:=by
 rcases h with h|⟨o,ak,n,hk,hc,hs,hz,r⟩
 .obtain⟨z,ak,r,p⟩:=h.ok I.hok;exact⟨ak,r,p,z⟩
 .refine⟨ak.toList,r,⟨o,I.kIn a o hk,hc,n,by simpa using hs⟩,?_⟩;have e:=r.length;simp only[Qbj]at e;omega
def Inv.list_inj(I:Inv X aa σ H s)(h:SqL X.K H a xs)(h':SqL X.K H a ys):xs=ys:=by
 obtain⟨ak,r,⟨o,n,e,_,_,d⟩,_⟩:=I.list h;obtain⟨its',f,⟨o',i,b,_,_,d'⟩,_⟩:=I.list h';rw[e]at b;cases b;rw[d]at d';injection d' with d1 _;have:ak=its':=by simpa using congrArg Array.toList d1
 subst this;exact r.inj f
def Inv.tuple_inj(I:Inv X aa σ H s)(h:SqT X.K H a xs)(h':SqT X.K H a ys):xs=ys:=by
 obtain⟨ak,r,⟨o,e,_,n,d⟩,_⟩:=I.tuple h;obtain⟨its',f,⟨o',b,_,i,d'⟩,_⟩:=I.tuple h';rw[e]at b;cases b;rw[d]at d';injection d' with d1 _;have:ak=its':=by simpa using congrArg Array.toList d1
 subst this;exact r.inj f
end
abbrev Cx.wish(X:Cx)(E:Ad->Ac->Prop):Cx:={ X with xe:=E }
abbrev Cx.nox(X:Cx):Cx:=X.wish λ_ _=>False
theorem Cx.Ok.wish{X:Cx}(ok:X.Ok)(E:Ad->Ac->Prop):(X.wish E).Ok :=
 ⟨ok.mod,ok.kind,ok.glob,ok.blt,ok.above,ok.inj,ok.has,ok.cab,ok.hd,ok.frames,ok.stk,ok.exf,ok.bs,ok.bsz,ok.noex,ok.exfs,ok.funs,ok.frf⟩
def Cx.Ok.unwish{X:Cx}{E:Ad->Ac->Prop}(ok:(X.wish E).Ok):X.Ok :=
 ⟨ok.mod,ok.kind,ok.glob,ok.blt,ok.above,ok.inj,ok.has,ok.cab,ok.hd,ok.frames,ok.stk,ok.exf,ok.bs,ok.bsz,ok.noex,ok.exfs,ok.funs,ok.frf⟩
section
variable {X:Cx}{aa:Ab (Af×Obj)}{σ:St}{H:Hp}{s:Ac}{E:Ad->Ac->Prop}
theorem Inv.wish(I:Inv X aa σ H s)(E:Ad->Ac->Prop):Inv (X.wish E) aa σ H s:=⟨I.ok.wish E,I.os,I.bare,I.base,I.loc,I.cell,I.free,I.freeC,I.pin,I.hok,I.len⟩
theorem Inv.unwish(I:Inv (X.wish E) aa σ H s):Inv X aa σ H s:=⟨I.ok.unwish,I.os,I.bare,I.base,I.loc,I.cell,I.free,I.freeC,I.pin,I.hok,I.len⟩
theorem SP.unwish(h:SP (X.wish E) aa D f s'):SP X aa D f s':=by
 cases f with
 |next=>obtain⟨σ',H',I,q⟩:=h;exact⟨σ',H',I.unwish,q⟩
 |brk=>obtain⟨σ',H',I,q⟩:=h;exact⟨σ',H',I.unwish,q⟩
 |cont=>obtain⟨σ',H',I,q⟩:=h;exact⟨σ',H',I.unwish,q⟩
 |ret u=>obtain⟨v,σ',H',I,r,q⟩:=h;exact⟨v,σ',H',I.unwish,r,q⟩
theorem PT.nox(h:PT X.nox e t):PT X e t:=λaa s σ H Q I hw =>
 Rc (h aa s σ H Q (I.wish _) hw) (λ_ _ ⟨H',I',q⟩=>⟨H',I'.unwish,q⟩) λ_ _ z=>False.elim z
theorem PSs.nox{st:Ab Stmt}{t:TS}(h:PSs X.nox st t):PSs X st t:=λaa s σ H D I hw =>
 Rc (h aa s σ H D (I.wish _) hw) (λ_ _ q=>q.unwish) λ_ _ z=>False.elim z
end
section
variable {X:Cx}{st:Stmt}{rest:Ab Stmt}{t u:TS}{e:Ag}{te:TE}{ai:Pos}
def ZcG:TS:=λD σ H=>D.nx σ H
def Zba(t u:TS):TS:=λD σ H=>t { D with nx:=u D } σ H
def B2:PSs X [] ZcG:=λ_ _ σ H _ I h=>wpAny_execs_nil ⟨σ,H,I,h⟩
def mK(h1:PS X st t)(h2:PSs X rest u):PSs X (st::rest) (Zba t u):=by
 intro aa s σ H D I h;refine wpAny_execs_cons (thn (h1 aa s σ H { D with nx:=u D } I h) λf s1 q=>?_);cases f with
 |next =>
  obtain⟨σ',H',a,q⟩:=q;exact h2 aa s1 σ' H' D a q
 |ret v=>exact q
 |brk=>exact q
 |cont=>exact q
def sM(h1:PS X st t):PSs X [st] t:=by
 intro aa s σ H D I h;refine wpAny_execs_cons (thn (h1 aa s σ H D I h) λf s1 q=>?_);cases f with
 |next=>exact wpAny_execs_nil q
 |ret v=>exact q
 |brk=>exact q
 |cont=>exact q
def Inv.quiet(I:Inv X aa σ H s):interactive X.env=false:=by simp[interactive,I.ok.kind]
def ZcH(te:TE):TS:=λD σ H=>te σ H λ_ H1=>D.nx σ H1
def vV(he:PE X e te)(hs:swapsWith e none ai.line X.env=pure false:=by rfl):PS X (.Expr e ai) (ZcH te):=by
 intro aa s σ H D I h;exact wpAny_Expr_any (thn (he aa s σ H _ I h) λv s1 ⟨x,H1,I1,r1,q1⟩=>⟨σ,H1,I1,q1⟩) I.quiet hs
def ZdO(te:TE):TS:=λD σ H=>te σ H D.rt
def gT(he:PE X e te):PS X (.Return (some e) ai) (ZdO te):=by
 intro aa s σ H D I h;exact wpAny_Return_some (thn (he aa s σ H _ I h) λv s1 ⟨x,H1,I1,r1,q1⟩=>⟨x,σ,H1,I1,r1,q1⟩)
def ZcE:TS:=λD _ H=>D.rt .non H
def Z9u:PS X (.Return none ai) ZcE:=λ_ _ σ H _ I h=>wpAny_Return_none ⟨.non,σ,H,I,rfl,h⟩
def ZdS(c:TT)(t u:TS):TS:=λD σ H=>c σ H λb H1=>if b=true then t D σ H1 else u D σ H1
def Z4b(hc:PT X c tc)(f:PSs X a t)(i:PSs X b u):PS X (.If c a b ai) (ZdS tc t u):=by
 intro aa s σ H D I h;refine wpAny_If (thn (hc aa s σ H _ I h) λd s1 ⟨H1,I1,q1⟩=>?_);cases d with
 |true=>exact f aa s1 σ H1 D I1 q1
 |false=>exact i aa s1 σ H1 D I1 q1
def Zbb:TS:=λ_ _ _=>False
def Z7f:PS X st Zbb:=λ_ _ _ _ _ _ h=>h.elim
end
abbrev TG:=V->St->Hp->(St->Hp->Prop)->Prop
abbrev TGs:=Ab V->St->Hp->(St->Hp->Prop)->Prop
def PG(X:Cx)(target:Ag)(t:TG):Prop :=
 ∀(aa:Ab (Af×Obj)) (s:Ac) (σ:St) (H:Hp) (v:V) (u:Ad) (Q:St->Hp->Prop),Inv X aa σ H s->RelV v u->t v σ H Q ->
  wpAny (model X.prog X.w) X.A (assign target X.env u) (λ_ s'=>∃σ' H',Inv X aa σ' H' s'/\Q σ' H') X.xe s
def PGs(X:Cx)(ts:Ab Ag)(t:TGs):Prop :=
 ∀(aa:Ab (Af×Obj)) (s:Ac) (σ:St) (H:Hp) (vs:Ab V) (us:Ab Ad) (Q:St->Hp->Prop),Inv X aa σ H s->Vals vs us->t vs σ H Q ->
  wpAny (model X.prog X.w) X.A (assignInOrder ((assignEach ts X.env).map (·.2)) us) (λ_ s'=>∃σ' H',Inv X aa σ' H' s'/\Q σ' H') X.xe s
section
variable {X:Cx}{ai:Pos}
def zD(i:Nat):TG:=λv σ H Q=>Q (σ.set i (some v)) H
def dM(f:X.N.Nodup)(hi:X.N[i]?=some x)(a:Loc X.env.scope x)(b:X.fn x=true\/X.env.scope.names.lookup x=some .local:=by first|exact .inl rfl|exact .inr rfl|assumption):PG X (.Name x ai) (zD i):=by
 intro aa s σ H v u Q I r h;exact wpAny_assign_Name (oA I f hi a r (λs' I'=>⟨_,H,I',h⟩) b)
def Zdo:TGs:=λvs σ H Q=>vs=[]/\Q σ H
def ZaU(t:TG)(u:TGs):TGs:=λvs σ H Q=>∃v r,vs=v::r/\t v σ H λσ' H'=>u r σ' H' Q
def sN:PGs X [] Zdo:=by
 intro aa s σ H vs us Q I r h;obtain⟨e,h⟩:=h;subst e;cases r;exact assignInOrder_nil ⟨σ,H,I,h⟩
def fN(h1:PG X e t)(h2:PGs X es u)
  (hs:(assignEach (e::es) X.env).map (·.2)=assign e X.env::(assignEach es X.env).map (·.2):=by rfl):PGs X (e::es) (ZaU t u):=by
 intro aa s σ H vs us Q I r h;obtain⟨v,b,a,h⟩:=h;subst a;cases r with
 |cons r rr =>
  rw[hs];refine assignInOrder_cons (thn (h1 aa s σ H _ _ _ I r h) λ_ s1 ⟨σ1,H1,I1,q1⟩=>?_);exact h2 aa s1 σ1 H1 _ _ Q I1 rr q1
def Zdn(K:Frag)(n:Nat)(t:TGs):TG:=λv σ H Q=>∃a xs,v=.ref a/\SqT K H a xs/\xs.length=n/\t xs σ H Q
def Z7k(hc:X.calm=true)(h:PGs X es t)
  (j:(assignEach es X.env).length=n:=by rfl) (f:(assignEach es X.env).findIdx? (·.1)=none:=by rfl):PG X (.Tuple es k ai) (Zdn X.K n t):=by
 intro aa s σ H v u Q I r hw;obtain⟨a,xs,l,hq,q,hw⟩:=hw;subst l;cases r;obtain⟨ak,i,w,x⟩:=I.tuple hq;refine assign_Tuple_tuple (I.ok.hd hc) w (by simp[j,<- q,i.length]) f λh' hx=>?_;have p:Inv X aa σ H { s with heap:=h' }:=I.kept (t':=s.toks) λb o e=>hx b o (QaA (Qal e)) e;exact h aa _ σ H xs _ Q p (by simpa using i) hw
def Z8I(te:TE)(g:TG):TS:=λD σ H=>te σ H λx H1=>g x σ H1 D.nx
def uP(b:X.N.Nodup)(hi:X.N[i]?=some x)(f:Loc X.env.scope x)(he:PE X e te)(hs:swapsWith e (some (.Name x pos')) ai.line X.env=pure false:=by rfl)(a:X.fn x=true\/X.env.scope.names.lookup x=some .local:=by first|exact .inl rfl|exact .inr rfl|assumption) :
  PS X (.Assign [.Name x pos'] e ai) (Z8I te (zD i)):=by
 intro aa s σ H D I h;refine wpAny_Assign_Name (thn (he aa s σ H _ I h) λv s1 ⟨y,H1,I1,r1,q1⟩=>?_) hs;exact oA I1 b hi f r1 (λs2 I2=>⟨_,H1,I2,q1⟩) a
end
section
variable {X:Cx}{ai:Pos}
def Zb9(c:TT)(tb:TS):TS:=λD σ H=>∃W:Nat->St->Hp->Prop,(∃m,W m σ H)/\∀m σ H,W m σ H ->
 c σ H λb H1=>if b=true then ∃N:St->Hp->Prop,(∀σ' H',N σ' H'->∃m',m'<m/\W m' σ' H')/\tb { D with nx:=N,ct:=N,bk:=D.nx } σ H1 else D.nx σ H1
def Z7d(hp:PassesOwn (model X.prog X.w) X.A X.env X.xe)(hc:PT X c tc)(u:PSs X body tb):PS X (.While c body [] ai) (Zb9 tc tb):=by
 intro aa s σ H D I h;obtain⟨W,⟨y,x⟩,l⟩:=h;refine wpAny_While (codeAny_whileLoop (λn s'=>∃σ' H',Inv X aa σ' H' s'/\W n σ' H') ?_ y ⟨σ,H,I,x⟩);rintro n s1 ⟨σ1,H1,I1,w1⟩;refine wpAny_passesOwn hp (thn (hc aa s1 σ1 H1 _ I1 (l n σ1 H1 w1)) λb s2 ⟨H2,I2,j⟩=>?_);cases b with
 |true =>
  obtain⟨N,t,j⟩:=j;rw[if_pos rfl];refine wpAny_passesOwn hp (thn (u aa s2 σ1 H2 _ I2 j) λf s3 q3=>?_);cases f with
  |next =>
   obtain⟨a,i,o,p⟩:=q3;obtain⟨m',r,q⟩:=t a i p;exact⟨m',r,a,i,o,q⟩
  |cont =>
   obtain⟨a,i,o,p⟩:=q3;obtain⟨m',r,q⟩:=t a i p;exact⟨m',r,a,i,o,q⟩
  |brk=>exact q3
  |ret v=>exact q3
 |false =>
  rw[if_neg Qbn];exact wpAny_execs_nil ⟨σ1,H2,I2,j⟩
end
structure It where
 go:Nat->Hp->Prop
 yld:Nat->Hp->V->Hp->Prop
 stop:Nat->Hp->Prop
def xD(X:Cx)(aa:Ab (Af×Obj))(H:Hp)(b:Af):Prop :=
 H b=none/\b≠X.env.locals/\b∉X.fs/\(b∈X.ex\/X.s₀.heap.objs.size<=b)/\(∀x c,X.env.cells.lookup x=some c->c≠b)/\∀p∈X.pn++aa,p.1≠b
def Inv.fpOk(I:Inv X aa σ H s)(a:s.heap.objs.size<=b)(f:H' b=none):xD X aa H' b:=by
 refine⟨f,Qbu (Qaw I.lt a),I.nofs a,.inr (Qay I.sz a),λx c e z=>?_,λp hp z=>?_⟩
 .obtain⟨v,q⟩:=I.cell x c e;exact absurd (Qaw q.lt (by rw[z];exact a)) (Qa9 _)
 .exact absurd (Qaw (Qal (I.pin p hp).1) (by rw[z];exact a)) (Qa9 _)
structure O1(P:Program)(w:World)(K:Frag)(tg:Expr)(J:It)(fp:List Addr)(it:Addr)(tn:Nat->Heap->Prop):Prop where
 mem:it∈fp
 obj:∀i h,tn i h->∀b∈fp,∃o,h.get? b=some o/\∀v,o.data ≠ .cell v
 keep:∀i h h',tn i h->(∀b∈fp,∀o,h.get? b=some o->h'.get? b=some o)->tn i h'
 item:∀(X:Cx),X.prog=P->X.w=w->X.K=K->X.calm=true->∀(i:Nat) (pins:Ab (Af×Obj)) (s:Ac) (σ:St) (H:Hp) (E:Ad->Ac->Prop),Inv X pins σ H s->(∀b∈fp,xD X pins H b)->tn i s.heap->J.go i H ->
  wpAny (model P w) X.A (pyNext (.ref it)) (λr s1=>∃u,r=some u /\
   wpAny (model P w) X.A (letOwnedTupleGo tg (.ref it) u) (λ_ s2=>∃x H',Inv X pins σ H' s2/\RelV x u/\J.yld i H x H'/\tn (i+1) s2.heap/\∀b∈fp,H' b=none) E s1) E s
 done:∀(X:Cx),X.prog=P->X.w=w->X.K=K->X.calm=true->∀(i:Nat) (pins:Ab (Af×Obj)) (s:Ac) (σ:St) (H:Hp) (E:Ad->Ac->Prop),Inv X pins σ H s->(∀b∈fp,xD X pins H b)->tn i s.heap->J.stop i H ->
  wpAny (model P w) X.A (pyNext (.ref it)) (λr s1=>r=none/\Inv X pins σ H s1) E s
 self:∀(A:Ai) (i:Nat) (s:Ac) (Q:Ad->Ac->Prop) (E:Ad->Ac->Prop),tn i s.heap->Q (.ref it) s->wpAny (model P w) A (pyIter (.ref it)) Q E s
abbrev TI:=St->Hp->(It->Hp->Prop)->Prop
def PIE(X:Cx)(aa:Ab (Af×Obj))(σ:St)(tg:Ag)(R:It->Hp->Prop)(itv:Ad)(s2:Ac):Prop :=
 ∃(it:Af) (fp:Ab Af) (tn:Nat->Ah->Prop) (J:It) (H':Hp),itv=.ref it/\Inv X aa σ H' s2/\O1 X.prog X.w X.K tg J fp it tn/\tn 0 s2.heap/\(∀b∈fp,xD X aa H' b)/\R J H'
def PI(X:Cx)(tg iter:Ag)(wi:TI):Prop :=
 ∀(aa:Ab (Af×Obj)) (s:Ac) (σ:St) (H:Hp) (R:It->Hp->Prop),Inv X aa σ H s->wi σ H R ->
  wpAny (model X.prog X.w) X.A (eval iter X.env) (λv s1=>wpAny (model X.prog X.w) X.A (pyIter v) (PIE X aa σ tg R) X.xe s1) X.xe s
def Z1O(f:s.heap.get? it=some o)(hc:o.cls=.type n)(hd:o.data=.fields vs)
  (b:["enumerate","zip","dict_itemiterator","dict_reverseitemiterator","odict_iterator","itertools.zip_longest","itertools.pairwise"].contains n=false) (a:Q () s):wpAny M A (letOwnedTupleGo tg (.ref it) u) Q E s:=by
 unfold letOwnedTupleGo;cases tg<;>first
  |exact Rb a
  | (cases u <;> first
    |exact Rb a
    | (refine Ra (wpAny_load f ?_)
       rw[hc,hd];show wpAny M A (if (["enumerate","zip","dict_itemiterator","dict_reverseitemiterator","odict_iterator","itertools.zip_longest","itertools.pairwise"].contains n&&vs[0]?==some (rawInt _))=true then _ else _) Q E s;rw[if_neg (by intro h;rw[b,Bool.false_and]at h;cases h)];exact Rb a))
def Itl(K:Frag)(a:Af):It :=
 ⟨λi H=>∃xs x,SqL K H a xs/\xs[i]?=some x,λi H x H'=>H'=H/\∀xs,SqL K H a xs->xs[i]?=some x,λi H=>∃xs,SqL K H a xs/\xs.length<=i⟩
def Itt(K:Frag)(a:Af):It :=
 ⟨λi H=>∃xs x,SqT K H a xs/\xs[i]?=some x,λi H x H'=>H'=H/\∀xs,SqT K H a xs->xs[i]?=some x,λi H=>∃xs,SqT K H a xs/\xs.length<=i⟩
def Itr(lo:Int)(n:Nat):It:=⟨λi _=>i<n,λi H x H'=>H'=H/\x=.int (lo+i),λi _=>n<=i⟩
def Z4S{P:Aj}{w:Ak}{K:Frag}{tg:Ag}(a it:Af):O1 P w K tg (Itl K a) [it] it (λi h=>h.IsListIter it a i) where
 mem:=by simp
 obj:=λi h st b hb=>by
  have e:b=it:=by simpa using hb
  subst e;obtain⟨o,e,c,d⟩:=st;exact⟨o,e,λv z=>by rw[d]at z;cases z⟩
 keep:=λi h h' st k=>st.at λo e=>k it (by simp) o e
 item:=by
  intro X y hw q hc i aa s σ H E I f st n;subst y hw q;obtain⟨xs,x,hq,r⟩:=n;obtain⟨ak,j,p,J⟩:=I.list hq;obtain⟨u,G,F⟩:=j.get r;obtain⟨l,f1,B,f3,t,A⟩:=f it (by simp);refine wpAny_pyNext_list_item st p.isList (x:=u) (by simpa using G) λh' st' sb=>?_;have C:Inv X aa σ H { s with heap:=h' }:=I.turned (t':=s.toks) (λb o hb e=>(sb.2 b hb).trans e) l f1 f3 t A;obtain⟨o,e,c,d⟩:=id st';exact⟨u,rfl,Z1O (s:={ s with heap:=h' }) e c d (by decide) ⟨x,H,C,F,⟨rfl,λys hy=>by rw[I.list_inj hy hq];exact r⟩,st',λb hb=>(f b hb).1⟩⟩
 done:=by
  intro X y hw q hc i aa s σ H E I f st n;subst y hw q;obtain⟨xs,hq,r⟩:=n;obtain⟨ak,j,p,J⟩:=I.list hq;obtain⟨l,f1,B,f3,t,A⟩:=f it (by simp);have L:=j.length;exact wpAny_pyNext_list_end (I.ok.hd hc) st p.isList (by simp;omega) λh' eb=>⟨rfl,I.turned (t':=s.toks) (λb o hb e=>eb b o hb e) l f1 f3 t A⟩
 self:=λ_ _ _ _ _ st h=>wpAny_pyIter_listiter st h
def Z2B{P:Aj}{w:Ak}{K:Frag}{tg:Ag}(a it:Af):O1 P w K tg (Itt K a) [it] it (λi h=>h.IsTupleIter it a i) where
 mem:=by simp
 obj:=λi h st b hb=>by
  have e:b=it:=by simpa using hb
  subst e;obtain⟨o,e,c,d⟩:=st;exact⟨o,e,λv z=>by rw[d]at z;cases z⟩
 keep:=λi h h' st k=>st.at λo e=>k it (by simp) o e
 item:=by
  intro X y hw q hc i aa s σ H E I f st n;subst y hw q;obtain⟨xs,x,hq,r⟩:=n;obtain⟨ak,j,p,J⟩:=I.tuple hq;obtain⟨u,G,F⟩:=j.get r;obtain⟨l,f1,B,f3,t,A⟩:=f it (by simp);refine wpAny_pyNext_tuple_item st (show s.heap.IsTuple a ak.toArray from p) (x:=u) (by simpa using G) λh' st' sb=>?_
  have C:Inv X aa σ H { s with heap:=h' }:=I.turned (t':=s.toks) (λb o hb e=>(sb.2 b hb).trans e) l f1 f3 t A;obtain⟨o,e,c,d⟩:=id st';exact⟨u,rfl,Z1O (s:={ s with heap:=h' }) e c d (by decide) ⟨x,H,C,F,⟨rfl,λys hy=>by rw[I.tuple_inj hy hq];exact r⟩,st',λb hb=>(f b hb).1⟩⟩
 done:=by
  intro X y hw q hc i aa s σ H E I f st n;subst y hw q;obtain⟨xs,hq,r⟩:=n;obtain⟨ak,j,p,J⟩:=I.tuple hq;obtain⟨l,f1,B,f3,t,A⟩:=f it (by simp);have L:=j.length;exact wpAny_pyNext_tuple_end (I.ok.hd hc) st (show s.heap.IsTuple a ak.toArray from p) (by simp;omega) λh' eb=>⟨rfl,I.turned (t':=s.toks) (λb o hb e=>eb b o hb e) l f1 f3 t A⟩
 self:=λ_ _ _ _ _ st h=>wpAny_pyIter_tupleiter st h
def Z2C{P:Aj}{w:Ak}{K:Frag}{tg:Ag}(it:Af)(lo:Int)(n:Nat):O1 P w K tg (Itr lo n) [it] it (λi h=>IsRangeIter h it (lo+(i:Nat)*1) ((n:Int)-(i:Nat)) 1) where
 mem:=by simp
 obj:=λi h st b hb=>by
  have e:b=it:=by simpa using hb
  subst e;exact⟨_,st,λv z=>by
   have y:Data.fields _=Data.cell v:=z;cases y⟩
 keep:=λi h h' st k=>k it (by simp) _ st
 item:=by
  intro X q hw l hc i aa s σ H E I a st j;subst q hw l;obtain⟨f,f1,u,f3,p,r⟩:=a it (by simp);have W:=Walks.range (prog:=X.prog) (w:=X.w) (I.ok.hd hc) it lo 1 n;refine W.item i s _ _ j st λv h' tk hv st' kk=>?_;obtain⟨t,rfl⟩:=hv;have x:Inv X aa σ H { s with heap:=h',toks:=tk }:=I.turned (λb o hb e=>kk b o (by simpa using hb) e) f f1 f3 p r;refine⟨_,rfl,Z1O (s:={ s with heap:=h',toks:=tk }) (n := "range_iterator") st' rfl rfl (by decide) ⟨.int (lo+i),H,x,⟨t,?_⟩,⟨rfl,rfl⟩,st',λb hb=>(a b hb).1⟩⟩;rw[Int.mul_one]
 done:=by
  intro X q hw l hc i aa s σ H E I a st j;subst q hw l;obtain⟨f,f1,u,f3,p,r⟩:=a it (by simp);exact wpAny_pyNext_range_end (I.ok.hd hc) st (by have:n<=i:=j;omega) λh' eb=>⟨rfl,I.turned (t':=s.toks) (λb o hb e=>eb b o hb e) f f1 f3 p r⟩
 self:=λ_ _ _ _ _ st h=>wpAny_pyIter_rangeiter st h
section
variable {X:Cx}{tg:Ag}
def Zdj(K:Frag)(tl:TE):TI:=λσ H R=>tl σ H λx H1=>∃a,x=.ref a/\(∃xs,SqL K H1 a xs)/\R (Itl K a) H1
def Ze7(K:Frag)(tl:TE):TI:=λσ H R=>tl σ H λx H1=>∃a,x=.ref a/\(∃xs,SqT K H1 a xs)/\R (Itt K a) H1
def Z9A{l:Ag}{tl:TE}(f:PE X l tl):PI X tg l (Zdj X.K tl):=by
 intro aa s σ H R I h;refine thn (f aa s σ H _ I h) λv s1 ⟨x,H1,I1,r1,q1⟩=>?_;obtain⟨a,e,⟨xs,hq⟩,q⟩:=q1;subst e;cases r1;obtain⟨ak,i,p,j⟩:=I1.list hq;refine wpAny_pyIter_list p.isList ?_;refine⟨s1.heap.objs.size,[s1.heap.objs.size],_,_,H1,rfl,I1.kept (t':=s1.toks) λb o e=>Qac _ e,Z4S a _,⟨_,Qas _ rfl,rfl,rfl⟩,λb hb=>?_,q⟩;have e:b=s1.heap.objs.size:=by simpa using hb
 subst e;exact I1.fpOk (Qap _) (I1.hok.fresh (Qap _))
def ZbN{l:Ag}{tl:TE}(f:PE X l tl):PI X tg l (Ze7 X.K tl):=by
 intro aa s σ H R I h;refine thn (f aa s σ H _ I h) λv s1 ⟨x,H1,I1,r1,q1⟩=>?_;obtain⟨a,e,⟨xs,hq⟩,q⟩:=q1;subst e;cases r1;obtain⟨ak,i,p,j⟩:=I1.tuple hq;refine wpAny_pyIter_tuple (show s1.heap.IsTuple a ak.toArray from p) ?_
 refine⟨s1.heap.objs.size,[s1.heap.objs.size],_,_,H1,rfl,I1.kept (t':=s1.toks) λb o e=>Qac _ e,Z2B a _,⟨_,Qas _ rfl,rfl,rfl⟩,λb hb=>?_,q⟩;have e:b=s1.heap.objs.size:=by simpa using hb
 subst e;exact I1.fpOk (Qap _) (I1.hok.fresh (Qap _))
def Z6V{aa:Ab (Af×Obj)}{σ:St}{H:Hp}{s:Ac}{R:It->Hp->Prop}{E:Ad->Ac->Prop}{lo hi:Int}{t u v:Tok}{tk:Nat}(I:Inv X aa σ H s)(h1:-(2^62)<=lo)(h2:lo<2^62)(h3:-(2^62)<=hi)(i:hi<2^62)
  (q:R (Itr lo (hi-lo).toNat) H):wpAny (model X.prog X.w) X.A (pyIter (.ref s.heap.objs.size)) (PIE X aa σ tg R) E { s with heap:=s.heap.push { cls:=.type "range",data:=.fields #[.int lo t,.int hi u,.int 1 v] },toks:=tk }:=by
 refine wpAny_pyIter_range (IsRange.new ..) (small_one h1 h2 h3 i) ?_;have a:Inv X aa σ H { s with heap:=s.heap.push { cls:=.type "range",data:=.fields #[.int lo t,.int hi u,.int 1 v] },toks:=tk }:=I.kept λb o e=>Qac _ e;refine⟨(s.heap.push { cls:=.type "range",data:=.fields #[.int lo t,.int hi u,.int 1 v] }).objs.size,[(s.heap.push { cls:=.type "range",data:=.fields #[.int lo t,.int hi u,.int 1 v] }).objs.size],_,_,H,rfl,
  a.kept (t':=tk) λb o e=>Qac _ e,Z2C _ lo (hi-lo).toNat,?_,λb hb=>?_,q⟩
 .have f:lo+((0:Nat):Int)*1=lo:=by simp
  have h:(((hi-lo).toNat:Nat):Int)-((0:Nat):Int)=Builtin.Range.rangeSize lo hi 1:=by rw[rangeSize_one];split<;>omega
  show IsRangeIter _ _ (lo+((0:Nat):Int)*1) ((((hi-lo).toNat:Nat):Int)-((0:Nat):Int)) 1;rw[f,h];exact Qas _ rfl
 .have e:b=(s.heap.push { cls:=.type "range",data:=.fields #[.int lo t,.int hi u,.int 1 v] }).objs.size:=by simpa using hb
  subst e;exact a.fpOk (Qap _) (a.hok.fresh (Qap _))
def Zdi(ta:TA):TI:=λσ H R=>ta σ H λvs H1=>∃j:Int,vs=[.int j] /\ -(2^62)<=j/\j<2^62/\R (Itr 0 j.toNat) H1
def Z5r{a:Ag}{ta:TA}{p ai:Pos}(i:Gl X "range")(l:X.mg "range" = none)(f:PA X [a] ta)(hs:starEach [a] X.env=[(false,eval a X.env)]:=by rfl):PI X tg (.Call (.Name "range" p) [a] [] ai) (Zdi ta):=by
 intro aa s σ H R I h;refine Call_ (uU I i l boot_range (PyProof.Rows.callWith_type1 (thn (f ai aa s σ H _ I h) λus s1 ⟨vs,H1,I1,r1,b⟩=>?_) hs rfl));obtain⟨j,e,b,n,q⟩:=b;subst e;cases r1 with
 |cons r rr =>
  cases rr;obtain⟨t,rfl⟩:=r;exact call_range_1 (Z6V I1 (by omega) (by omega) b n (by simpa using q))
def ZdT(wi:TI)(g:TG)(tb:TS):TS:=λD σ H=>wi σ H λJ H1=>∃W:Nat->Nat->St->Hp->Prop,(∃m,W 0 m σ H1)/\∀i m σ H,W i m σ H ->
 (J.stop i H/\D.nx σ H)\/(J.go i H/\∃N:St->Hp->Prop,(∀σ' H',N σ' H'->∃m',m'<m/\W (i+1) m' σ' H')/\∀x H',J.yld i H x H'->g x σ H' λσ2 H2=>tb { D with nx:=N,ct:=N,bk:=D.nx } σ2 H2)
def G6(fp:Ab Af)(h:Ah):Ab (Af×Obj):=fp.filterMap λb=>(h.get? b).map λo=>(b,o)
def pC(a:b∈fp)(e:h.get? b=some o):(b,o)∈G6 fp h:=List.mem_filterMap.mpr ⟨b,a,by rw[e];rfl⟩
def Z5y(hp:p∈G6 fp h):p.1∈fp/\h.get? p.1=some p.2:=by
 obtain⟨b,a,e⟩:=List.mem_filterMap.mp hp;cases q:h.get? b with
 |none=>rw[q]at e;cases e
 |some o =>
  rw[q]at e;have f:(b,o)=p:=QaF e;subst f;exact⟨a,q⟩
def Inv.pinned(I:Inv X aa σ H s)(j:∀b∈fp,xD X aa H b)(h:∀b∈fp,∃o,s.heap.get? b=some o/\∀v,o.data ≠ .cell v):Inv X (aa++G6 fp s.heap) σ H s :=
 I.pins_of λp hp=>(Qaf.mp hp).elim (λz=>I.pin p (Qae _ z)) λz=>by
  obtain⟨f,e⟩:=Z5y z;obtain⟨i,f1,l,_⟩:=j p.1 f;obtain⟨o,a,d⟩:=h p.1 f;rw[e]at a;cases a;exact⟨e,i,f1,l,d⟩
def Inv.unpinned(I:Inv X (aa++pl) σ H s):Inv X aa σ H s:=I.pins_of λp hp=>I.pin p (Qae _ (Qar _ hp))
def Z2W(hp:PassesOwn (model X.prog X.w) X.A X.env X.xe)(hc:X.calm=true)(hi:PI X tg iter wi)(O:PG X tg g)(l:PSs X body tb)
  (hs:∀x,foldedSetIterable iter X.env x=pure x:=by intro _;rfl):PS X (.For tg iter body [] ai) (ZdT wi g tb):=by
 intro aa s σ H D I h;refine wpAny_For (thn (hi aa s σ H _ I h) λv s1 h1=>thn h1 λitv s2 h2=>?_) hs;obtain⟨it,fp,tn,J,M,e,S,T,G,F,W,⟨m0,Z⟩,C⟩:=h2;subst e
 -- what stays true of the iterator's objects through the loop
 have t:∀{H':Hp},(∀b∈fp,H' b=none)->∀b∈fp,xD X aa H' b:=λhn b l=>⟨hn b l,(F b l).2⟩;refine codeAny_forLoop_any (λn s'=>∃i σ' H',Inv X aa σ' H' s'/\tn i s'.heap/\(∀b∈fp,H' b=none)/\W i n σ' H') ?_ m0 ⟨0,σ,M,S,G,λb l=>(F b l).1,Z⟩;rintro n s3 ⟨i,σ3,H3,I3,st3,fr3,w3⟩;rcases C i n σ3 H3 w3 with⟨E,Y⟩|⟨go,N,U,step⟩
 .refine wpAny_passesOwn hp (thn (T.done X rfl rfl rfl hc i aa s3 σ3 H3 X.xe I3 (t fr3) st3 E) λr s4 ⟨hr,I4⟩=>?_);subst hr;exact wpAny_execs_nil ⟨σ3,H3,I4,Y⟩
 .refine wpAny_passesOwn hp (thn (T.item X rfl rfl rfl hc i aa s3 σ3 H3 X.xe I3 (t fr3) st3 go) λr s4 ⟨u,hr,h4⟩=>?_);subst hr;refine wpAny_passesOwn hp (thn h4 λ_ s5 ⟨x,H5,I5,r5,y5,st5,fr5⟩=>?_);have K:=I5.pinned (t fr5) (T.obj _ _ st5);refine wpAny_passesOwn hp (thn (O _ s5 σ3 H5 x u _ K r5 (step x H5 y5)) λ_ s6 ⟨σ6,H6,I6,q6⟩=>?_);refine wpAny_passesOwn hp (thn (l _ s6 σ6 H6 _ I6 q6) λf s7 q=>?_);have y:∀{a:St}{j:Hp},Inv X (aa++G6 fp s5.heap) a j s7->N a j->∃m,m<n/\∃i σ' H',Inv X aa σ' H' s7/\tn i s7.heap/\(∀b∈fp,H' b=none)/\W i m σ' H':=λ{a j} p B=>by
   obtain⟨m',Q,P⟩:=U a j B;refine⟨m',Q,i+1,a,j,p.unpinned,T.keep _ _ _ st5 λb l o e=>(p.pin (b,o) (Qae _ (Qae _ (pC l e)))).1,λb l=>?_,P⟩;obtain⟨o,e,d⟩:=T.obj _ _ st5 b l;exact(p.pin (b,o) (Qae _ (Qae _ (pC l e)))).2.1
  cases f with
  |next=>obtain⟨a,j,p,B⟩:=q;exact y p B
  |cont=>obtain⟨a,j,p,B⟩:=q;exact y p B
  |brk=>obtain⟨a,j,p,q⟩:=q;exact⟨a,j,p.unpinned,q⟩
  |ret v=>obtain⟨R,a,j,p,L,q⟩:=q;exact⟨R,a,j,p.unpinned,L,q⟩
end
abbrev R2:=V->V->Hp->VK->Prop
def OpR(X:Cx)(f:Ad->Ad->Sem Ad)(r:R2):Prop :=
 ∀(aa:Ab (Af×Obj)) (s:Ac) (σ:St) (H:Hp) (x y:V) (v u:Ad) (Q:VK),Inv X aa σ H s->RelV x v->RelV y u->r x y H Q ->
  wpAny (model X.prog X.w) X.A (f v u) (EP X aa σ Q) X.xe s
def UnR(X:Cx)(f:Ad->Sem Ad)(r:V->Hp->VK->Prop):Prop :=
 ∀(aa:Ab (Af×Obj)) (s:Ac) (σ:St) (H:Hp) (x:V) (v:Ad) (Q:VK),Inv X aa σ H s->RelV x v->r x H Q ->
  wpAny (model X.prog X.w) X.A (f v) (EP X aa σ Q) X.xe s
def CallR(X:Cx)(f:Ad)(r:Ab V->Hp->VK->Prop):Prop :=
 ∀(aa:Ab (Af×Obj)) (s:Ac) (σ:St) (H:Hp) (xs:Ab V) (us:Ab Ad) (Q:VK),Inv X aa σ H s->Vals xs us->r xs H Q ->
  wpAny (model X.prog X.w) X.A (call f us) (EP X aa σ Q) X.xe s
def tOp(r:R2)(ta tb:TE):TE:=λσ H Q=>ta σ H λx H1=>tb σ H1 λy H2=>r x y H2 Q
def tUn(r:V->Hp->VK->Prop)(ta:TE):TE:=λσ H Q=>ta σ H λx H1=>r x H1 Q
def rI(C:Int->Int->Prop)(g:Int->Int->V):R2:=λx y H Q=>∃i j,x=.int i/\y=.int j/\C i j/\Q (g i j) H
def rI0(g:Int->Int->V):R2:=λx y H Q=>∃i j,x=.int i/\y=.int j/\Q (g i j) H
def rU(g:Int->V):V->Hp->VK->Prop:=λx H Q=>∃i,x=.int i/\Q (g i) H
section
variable {X:Cx}{a b:Ag}{ta tb:TE}{ai:Pos}
def Zcm(i:PE X a ta)(j:PE X b tb){aa:Ab (Af×Obj)}{s:Ac}{σ:St}{H:Hp}{R:V->V->Hp->Prop}(I:Inv X aa σ H s)
  (h:ta σ H λx H1=>tb σ H1 λy H2=>R x y H2) {Q:Ad->Ac->Prop}{f:Ad->Ad->Sem Ad}
  (l:∀v u s2 x y H2,Inv X aa σ H2 s2->RelV x v->RelV y u->R x y H2->wpAny (model X.prog X.w) X.A (f v u) Q X.xe s2) :
  wpAny (model X.prog X.w) X.A (eval a X.env) (λv s₁=>wpAny (model X.prog X.w) X.A (eval b X.env) (λu s₂=>wpAny (model X.prog X.w) X.A (f v u) Q X.xe s₂) X.xe s₁) X.xe s:=by
 refine thn (i aa s σ H _ I h) λv s1 ⟨x,H1,I1,r1,q1⟩=>?_;refine thn (j aa s1 σ H1 _ I1 q1) λu s2 ⟨y,H2,I2,r2,q2⟩=>?_;exact l v u s2 x y H2 I2 r1 r2 q2
def pe_op(f:OpR X (binaryOp op) r)(i:PE X a ta)(j:PE X b tb):PE X (.BinOp a op b ai) (tOp r ta tb):=by
 intro aa s σ H Q I h;exact wpAny_BinOp (Zcm i j I h λv u s2 x y H2 I2 rx ry q=>f aa s2 σ H2 x y v u Q I2 rx ry q)
def pe_un(b:UnR X (unaryOp op) r)(f:PE X a ta):PE X (.UnaryOp op a ai) (tUn r ta):=by
 intro aa s σ H Q I h;exact UnaryOp_ (thn (f aa s σ H _ I h) λv s1 ⟨x,H1,I1,r1,q1⟩=>b aa s1 σ H1 x v Q I1 r1 q1)
def opI{f:Ad->Ad->Sem Ad}{C:Int->Int->Prop}{g:Int->Int->Int}
  (rule:∀(i j:Int) (t u:Tok) (s:Ac) (Q:Ad->Ac->Prop) (E:Ad->Ac->Prop),C i j->Q (.int (g i j) s.toks) { s with toks:=s.toks+1 }->wpAny (model X.prog X.w) X.A (f (.int i t) (.int j u)) Q E s) :
  OpR X f (rI C λi j=>.int (g i j)):=by
 intro aa s σ H x y v u Q I a b h;obtain⟨i,j,rfl,rfl,hc,q⟩:=h;obtain⟨t,rfl⟩:=a;obtain⟨t',rfl⟩:=b;exact rule i j t t' s _ _ hc ⟨.int (g i j),H,I.tok _,⟨_,rfl⟩,q⟩
def Z7s{f:Ad->Ad->Sem Ad}{g:Int->Int->Int}
  (rule:∀(i j:Int) (t u:Tok) (s:Ac) (Q:Ad->Ac->Prop) (E:Ad->Ac->Prop),Q (.int (g i j) s.toks) { s with toks:=s.toks+1 }->wpAny (model X.prog X.w) X.A (f (.int i t) (.int j u)) Q E s) :
  OpR X f (rI0 λi j=>.int (g i j)):=by
 intro aa s σ H x y v u Q I a b h;obtain⟨i,j,rfl,rfl,q⟩:=h;obtain⟨t,rfl⟩:=a;obtain⟨t',rfl⟩:=b;exact rule i j t t' s _ _ ⟨.int (g i j),H,I.tok _,⟨_,rfl⟩,q⟩
def ZbY{f:Ad->Ad->Sem Ad}{g:Int->Int->Bool}
  (rule:∀(i j:Int) (t u:Tok) (s:Ac) (Q:Ad->Ac->Prop) (E:Ad->Ac->Prop),Q (.bool (g i j)) s->wpAny (model X.prog X.w) X.A (f (.int i t) (.int j u)) Q E s) :
  OpR X f (rI0 λi j=>.bl (g i j)):=by
 intro aa s σ H x y v u Q I a b h;obtain⟨i,j,rfl,rfl,q⟩:=h;obtain⟨t,rfl⟩:=a;obtain⟨t',rfl⟩:=b;exact rule i j t t' s _ _ ⟨.bl (g i j),H,I,rfl,q⟩
def Zcq(i j:Int):Prop:=0<=j/\j<=1000000/\i.natAbs<2^64
def Z2A(k:Nat):(0:Int)<=2^k:=by
 rw[two_pow_cast];exact Int.natCast_nonneg _
def cV:OpR X (binaryOp .Add) (rI0 λi j=>.int (i+j)):=Z7s λ_ _ _ _ _ _ _ q=>add_int q
def jD:OpR X (binaryOp .Sub) (rI0 λi j=>.int (i-j)):=Z7s λ_ _ _ _ _ _ _ q=>sub_int q
def cC:OpR X (binaryOp .Mod) (rI (λ_ j=>0<j) λi j=>.int (i%j)):=opI λi j _ _ _ _ _ hc q=>by
 have h1:(0:Int)<j:=hc;exact mod_int' (by omega) (by rw[Int.fmod_eq_emod_of_nonneg i (by omega)];exact q)
def G8:OpR X (binaryOp .Pow) (rI Zcq λi j=>.int (i^j.toNat)):=opI λ_ _ _ _ _ _ _ hc q=>pow_int_small hc.1 hc.2.1 hc.2.2 q
def Z2Z:OpR X (binaryOp .RShift) (rI (λ_ j=>0<=j) λi j=>.int (i/2^j.toNat)):=opI λi j _ _ _ _ _ hc q =>
 rshift_int hc (by rw[Int.fdiv_eq_ediv_of_nonneg i (Z2A _)];exact q)
def Z32:OpR X (binaryOp .BitAnd) (rI0 λi j=>.int (Builtin.bitAnd i j)):=Z7s λ_ _ _ _ _ _ _ q=>and_int q
def Zd7:OpR X (binaryOp .BitOr) (rI0 λi j=>.int (Builtin.bitOr i j)):=Z7s λ_ _ _ _ _ _ _ q=>or_int q
def ZbW:OpR X (binaryOp .BitXor) (rI0 λi j=>.int (Builtin.bitXor i j)):=Z7s λ_ _ _ _ _ _ _ q=>xor_int q
def unI{f:Ad->Sem Ad}{g:Int->Int}
  (rule:∀(i:Int) (t:Tok) (s:Ac) (Q:Ad->Ac->Prop) (E:Ad->Ac->Prop),Q (.int (g i) s.toks) { s with toks:=s.toks+1 }->wpAny (model X.prog X.w) X.A (f (.int i t)) Q E s) :
  UnR X f (rU λi=>.int (g i)):=by
 intro aa s σ H x v Q I a h;obtain⟨i,rfl,q⟩:=h;obtain⟨t,rfl⟩:=a;exact rule i t s _ _ ⟨.int (g i),H,I.tok _,⟨_,rfl⟩,q⟩
def Z6t:UnR X (unaryOp .USub) (rU λi=>.int (-i)):=unI λ_ _ _ _ _ q=>neg_int q
end
section
variable {X:Cx}{a b c:Ag}{ta tb:TE}{ai:Pos}
def Z3p(I:Inv X aa σ H s)(q:Q (.bl k) H)(e:k=k'):EP X aa σ Q (.bool k') s:=by
 subst e;exact⟨.bl k,H,I,rfl,q⟩
def Z7p:OpR X (compareOp .Lt) (rI0 λi j=>.bl (decide (i<j))):=ZbY λ_ _ _ _ _ _ _ q=>lt_int q
def Zd8:OpR X (compareOp .Gt) (rI0 λi j=>.bl (decide (j<i))):=ZbY λ_ _ _ _ _ _ _ q=>gt_int q
def Zd9:OpR X (compareOp .GtE) (rI0 λi j=>.bl (decide (j<=i))):=ZbY λ_ _ _ _ _ _ _ q=>ge_int q
def Z5x:OpR X (compareOp .In) (λx y H Q=>∃i j,x=.str i/\y=.str j/\Q (.bl (!(Builtin.Str.occurrences j i 0 j.length 1).isEmpty)) H):=by
 intro aa s σ H x y v u Q I a b h;obtain⟨i,j,rfl,rfl,q⟩:=h;obtain⟨t,rfl⟩:=a;obtain⟨t',rfl⟩:=b;exact in_str (Z3p I q rfl)
def ZbX:OpR X (compareOp .Is) (λx y H Q=>y=.non/\Q (.bl (decide (x=.non))) H):=by
 intro aa s σ H x y v u Q I a b h;obtain⟨rfl,q⟩:=h;cases b;refine is_none_gen (Z3p I q ?_);cases x<;>first
  |(cases a;rfl)
  |(obtain⟨t,rfl⟩:=a;rfl)
def Z9I:OpR X (compareOp .IsNot) (λx y H Q=>y=.non/\Q (.bl (!decide (x=.non))) H):=by
 intro aa s σ H x y v u Q I a b h;obtain⟨rfl,q⟩:=h;cases b;refine isnot_none_gen (Z3p I q ?_);cases x<;>first
  |(cases a;rfl)
  |(obtain⟨t,rfl⟩:=a;rfl)
def kP(b:Ag){a:CmpOp}(h:a ≠ .In:=by decide)(h2:a ≠ .NotIn:=by decide):behindInMarks a b=false:=by
 have f:(a==CmpOp.In)=false:=by cases a<;>first|rfl|exact absurd rfl h
 have i:(a==CmpOp.NotIn)=false:=by cases a<;>first|rfl|exact absurd rfl h2
 cases b<;>simp[behindInMarks,f,i]
def B3(f:OpR X (compareOp op) r)(j:PE X a ta)(l:PE X b tb)(i:behindInMarks op b=false):PE X (.Compare a [op] [b] ai) (tOp r ta tb):=by
 intro aa s σ H Q I h;exact wpAny_Compare1 (Zcm j l I h λv u s2 x y H2 I2 rx ry q=>f aa s2 σ H2 x y v u Q I2 rx ry q) i
def ZcD(t:TE):TT:=λσ H Q=>t σ H λx H'=>∃k,x=.bl k/\Q k H'
def Z4a(f:OpR X (compareOp op) r)(j:PE X a ta)(l:PE X b tb)(i:behindInMarks op b=false):PT X (.Compare a [op] [b] ai) (ZcD (tOp r ta tb)):=by
 intro aa s σ H Q I h;refine wpAny_isTrue_Compare1 (thn (j aa s σ H _ I h) λv s1 ⟨x,H1,I1,r1,q1⟩=>thn (l aa s1 σ H1 _ I1 q1) λu s2 ⟨y,H2,I2,r2,q2⟩ =>
  thn (f aa s2 σ H2 x y v u _ I2 r1 r2 q2) λc s3 ⟨z,H3,I3,r3,k,e,q3⟩=>?_) i
 subst e;cases r3;exact wpAny_truthy_bool ⟨H3,I3,q3⟩
def J9:(sizeLine:Nat)<2^63:=by rw[sizeLine_eq];decide
def Z33:OpR X (binaryOp .Add) (λx y H Q=>∃i j,x=.str i/\y=.str j/\i.length+j.length<=sizeLine/\Q (.str (i++j)) H):=by
 intro aa s σ H x y v u Q I a b h;obtain⟨i,j,rfl,rfl,f,q⟩:=h;obtain⟨t,rfl⟩:=a;obtain⟨t',rfl⟩:=b;exact add_str (λt' tk=>⟨.str (i++j),H,I.tok _,⟨_,rfl⟩,q⟩) f
def tS(r:Vals [x] us):∃u,us=[u]/\RelV x u:=by
 cases r with
 |cons r1 r2=>cases r2;exact⟨_,rfl,r1⟩
def Z3I(r:Vals [x,y] us):∃u w',us=[u,w']/\RelV x u/\RelV y w':=by
 cases r with
 |cons r1 r2 =>
  cases r2 with
  |cons r3 r4=>cases r4;exact⟨_,_,rfl,r1,r3⟩
def Z62(hc:X.calm=true):CallR X (.builtin "max") (λxs H Q=>∃i j,xs=[.int i,.int j]/\Q (.int (if j > i then j else i)) H):=by
 intro aa s σ H xs us Q I r h;obtain⟨i,j,rfl,q⟩:=h;obtain⟨u,w',rfl,⟨t,rfl⟩,⟨t',rfl⟩⟩:=Z3I r;refine max_two_ints (I.ok.hd hc) λh' tk k=>⟨_,H,I.kept k,?_,q⟩;by_cases a:j > i
 .rw[if_pos a,if_pos a];exact⟨_,rfl⟩
 .rw[if_neg a,if_neg a];exact⟨_,rfl⟩
def Z64:CallR X (.type "int") (λxs H Q=>(∃i,xs=[.int i]/\Q (.int i) H)\/∃k,xs=[.bl k]/\Q (.int (if k then 1 else 0)) H):=by
 intro aa s σ H xs us Q I r h;rcases h with⟨i,rfl,q⟩|⟨k,rfl,q⟩
 .obtain⟨u,rfl,t,rfl⟩:=tS r;exact call_int_int ⟨.int i,H,I,⟨_,rfl⟩,q⟩
 .obtain⟨u,rfl,a⟩:=tS r;cases a;exact call_int_bool ⟨.int (if k then 1 else 0),H,I.tok _,⟨_,rfl⟩,q⟩
def Z0L:CallR X (.type "str") (λxs H Q=>∃i,xs=[.int i]/\i.natAbs.log2<1920/\Q (.str (toString i)) H):=by
 intro aa s σ H xs us Q I r h;obtain⟨i,rfl,a,q⟩:=h;obtain⟨u,rfl,t,rfl⟩:=tS r;exact PySem.P.str_of_int a ⟨.str _,H,I.tok _,⟨_,rfl⟩,q⟩
end
structure ObjM(h:Heap)(x dx C:Addr)(mA:Str->Option Value):Prop where
 obj:h.get? x=some (PySem.W.instObj C dx)
 ns:h.Ns1 dx mA
 ne:dx≠x
def Z5G{h:Ah}{dx:Af}{mA:Str->Aa Ad}(n:h.Ns1 dx mA):∃od,h.get? dx=some od/\∀name,PySem.W.lookIn name od=some (mA name):=by
 obtain⟨o,es,ep,f,hd,l,_,p⟩:=n;refine⟨o,f,λname=>?_⟩;have e:=p name;unfold nsFind findBy at e;rw[<- Array.find?_toList]at e;unfold PySem.W.lookIn;rw[hd];dsimp only;split
 .rename_i y q;rw[q]at e;exact congrArg some e
 .rename_i q;rw[q]at e;have a:es.toList.any (·.refKey)=false:=by
   rw[List.any_eq_false];intro y j;obtain⟨z,t,b⟩:=l y (Array.mem_toList_iff.mp j);simp[DictEntry.refKey,b]
  have i:¬es.toList.any (·.refKey)=true:=by rw[a];exact Qbn
  rw[if_neg i];exact congrArg some e
def ObjM.look(I:ObjM h x dx C mA):∃od,PySem.W.InstAt h x (PySem.W.instObj C dx) C (some od)/\∀name,PySem.W.lookIn name od=some (mA name) :=
 let ⟨od,ho,hl⟩:=Z5G I.ns
 ⟨od,⟨I.obj,rfl,rfl,ho⟩,hl⟩
section
variable {prog:Aj}{w:Ak}{A:Ai}{E:Ad->Ac->Prop}{s:Ac}{K:Frag}{x dx C f:Af}{mA:Str->Aa Ad}{name:Str}{v:Ad}
def Za3(X:K.In s.heap)(I:ObjM s.heap x dx C mA)(i:PySem.W.plainGet K C name=true)(f:PySem.W.hasDictIn K C=true)
  (b:PySem.W.findIn K (.ref C) name=some none) (l:mA name=some v) (a:PySem.W.handedIn v=true) (h:Q v { s with toks:=s.toks+1 }) :
  wpAny (model prog w) A (getAttr (.ref x) name expr) Q E s:=by
 obtain⟨n,J,j⟩:=I.look;exact PySem.W.get_value X J (PySem.W.plainGet_of i).1 (PySem.W.findObj_own f b rfl (by rw[j,l])) a h
def Z7T(X:K.In s.heap)(I:ObjM s.heap x dx C mA)(a:PySem.W.plainGet K C name=true)
  (j:PySem.W.findIn K (.ref C) name=some (some (.ref f))) (n:PySem.W.isFn K (.ref f)=true) (l:mA name=none) (h:Q (.ref f,[.ref x]) s) :
  wpAny (model prog w) A (getMethod (.ref x) name pl) Q E s:=by
 obtain⟨b,J,i⟩:=I.look;exact PySem.W.method_fn X J (PySem.W.plainGet_of a).1 (PySem.W.plainGet_of a).2 j (beq_iff_eq.mp n) (by show(PySem.W.lookIn name b).map (·.isSome)=some false;rw[i,l];rfl) h
def Z8Q(X:K.In s.heap)(I:ObjM s.heap x dx C mA)
  (hs:PySem.W.findIn K (.ref C) "__setattr__" = some (some (.builtin "object.__setattr__"))) (hp:PySem.W.plainOver K C=true) (p:PySem.W.takerIn K C name=some none) (n:PySem.W.hasDictIn K C=true)
  (hw:PySem.Within mA ns) (hsz:ns.length<=sizeLine)
  (h:∀h',ObjM h' x dx C (λy=>if y=name then some v else mA y)->Heap.SameBut dx s.heap h'->Q () { s with heap:=h',toks:=s.toks+2 }) :
  wpAny (model prog w) A (setAttr (.ref x) name v) Q E s:=by
 obtain⟨B,J,F⟩:=I.look;refine PySem.W.set_plain X J hs (PySem.W.osa_open (s:={ s with toks:=s.toks+1 }) (r:=none) X J hp p λb=>?_);obtain⟨cd,hc,j⟩:=PySem.W.any_some n;have o:s.heap.get? x=some ⟨.ref C,some dx,.plain,#[]⟩:=I.obj;refine Ra (Rb (Ra (Ra (wpAny_loadPart o (Ra (PySem.W.Looks.here (s:={ s with toks:=s.toks+1 }) (PySem.W.looks_clsIn X hc) ?_))))));rw[j];refine Rb (a:=some dx) (Ra (Rb (Ra ?_)));refine wpAny_nsSet1 (s:={ s with toks:=s.toks+1 }) I.ns λh' hn2 hs2=>?_;obtain⟨u,t,q,l,i,f⟩:=hn2.count (PySem.Within.cons name v hw);refine Ra (wpAny_lookBehind l (by rw[i];exact pastItsLine_dict (Qay f (by rw[Qai];omega))) ?_);exact Rb (h _ ⟨(hs2.2 _ (Ne.symm I.ne)).trans I.obj,hn2,I.ne⟩ hs2)
def Z7B(X:K.In s.heap)(i:PySem.W.makesIn K C=true)
  (hi:PySem.W.findIn K (.ref C) "__init__" = some (some (.ref f))) (b:PySem.W.typeIn K (.ref f)=some (.type "function"))
  (h:codeAny (model prog w) (A.under (.builtin "type.__call__" ⟨.ref C :: vs,kw⟩)) (.call (.ref f) ⟨.ref (s.heap.objs.size + 1) :: vs,kw⟩) (PySem.W.InitBack (s.heap.objs.size + 1) R)
   { s with heap:=(s.heap.push PySem.W.emptyDict).push (PySem.W.instObj C s.heap.objs.size) }) :
  codeAny (model prog w) A (.call (.ref C) ⟨vs,kw⟩) R s:=by
 obtain⟨j,g,d,t,os⟩:=s;exact PySem.W.make_core (PySem.W.makes_of X i) (PySem.W.looks_findIn X hi) (λa=>PySem.W.bind_fn X a b) (.inl rfl) h
end
def lH(f:Str)(v:V):Ab (Str×V)->Ab (Str×V)
 |[]=>[(f,v)]
 |(g,x)::r=>if g=f then(g,v)::r else(g,x)::lH f v r
theorem yX(f g:Str)(v:V):∀fs:Ab (Str×V),(lH f v fs).lookup g=if g=f then some v else fs.lookup g
 |[]=>by
  show List.lookup g [(f,v)]=_;by_cases h:g=f
  .have a:(g==f)=true:=beq_iff_eq.mpr h;simp only[List.lookup,a,if_pos h]
  .have a:(g==f)=false:=beq_eq_false_iff_ne.mpr h;simp only[List.lookup,a,if_neg h]
 |(k,x)::r=>by
  have i:=yX f g v r;rw[show lH f v ((k,x)::r)=(if k=f then(k,v)::r else(k,x)::lH f v r) from rfl]
  by_cases b:k=f
  .rw[if_pos b];by_cases h:g=k
   .have a:(g==k)=true:=beq_iff_eq.mpr h;simp only[List.lookup,a,if_pos (h.trans b)]
   .have a:(g==k)=false:=beq_eq_false_iff_ne.mpr h;simp only[List.lookup,a,if_neg (λe:g=f=>h (e.trans b.symm))]
  .rw[if_neg b];by_cases h:g=k
   .have a:(g==k)=true:=beq_iff_eq.mpr h;simp only[List.lookup,a,if_neg (λe:g=f=>b (h.symm.trans e))]
   .have a:(g==k)=false:=beq_eq_false_iff_ne.mpr h;simp only[List.lookup,a];exact i
theorem yA(f:Str)(v:V):∀fs:Ab (Str×V),f∈(lH f v fs).map (·.1)/\∀g,g∈fs.map (·.1)->g∈(lH f v fs).map (·.1)
 |[]=>⟨by simp[lH],λg h=>by simp at h⟩
 |(k,x)::r=>by
  obtain⟨i1,i2⟩:=yA f v r;rw[show lH f v ((k,x)::r)=(if k=f then(k,v)::r else(k,x)::lH f v r) from rfl]
  by_cases a:k=f
  .rw[if_pos a];subst a;exact⟨by simp,λg h=>by simpa using h⟩
  .rw[if_neg a];refine⟨?_,λg h=>?_⟩
   .rw[Qan];exact Qaa _ i1
   .rw[Qan]at h ⊢;rcases Qab.mp h with e|e
    .exact Qab.mpr (.inl e)
    .exact Qaa _ (i2 g e)
theorem yZ(f:Str)(v:V):∀fs:Ab (Str×V),(lH f v fs).length<=fs.length+1
 |[]=>by simp[lH]
 |(k,x)::r=>by
  have b:=yZ f v r;rw[show lH f v ((k,x)::r)=(if k=f then(k,v)::r else(k,x)::lH f v r) from rfl]
  by_cases a:k=f
  .rw[if_pos a,Qai,Qai];omega
  .rw[if_neg a,Qai,Qai];omega
def RelO.some_of(r:RelO (some v) o):∃u,o=some u/\RelV v u:=by
 cases o with
 |none=>exact(show False from r).elim
 |some u=>exact⟨u,rfl,r⟩
def RelO.none_of(r:RelO none o):o=none:=by
 cases o with
 |none=>rfl
 |some u=>exact(show False from r).elim
def Z5R(r:RelV v u):PySem.W.handedIn u=true:=by
 cases v with
 |non=>cases (show u=Value.none from r);rfl
 |bl b=>cases (show u=Value.bool b from r);rfl
 |int i=>obtain⟨t,e⟩:=(show ∃t,u=Value.int i t from r);cases e;rfl
 |str x=>obtain⟨t,e⟩:=(show ∃t,u=Value.str x t from r);cases e;rfl
 |byt b=>obtain⟨t,e⟩:=(show ∃t,u=Value.bytes b t from r);cases e;rfl
 |flt b=>obtain⟨t,e⟩:=(show ∃t,u=Value.float b t from r);cases e;rfl
 |ref a=>cases (show u=Value.ref a from r);rfl
 |ty n=>cases (show u=Value.type n from r);rfl
section
variable {P:Aj}{w:Ak}{H:Hp}{h:Ah}{a C dx:Af}{fs:Ab (Str×V)}
def B6(b:HOk P w H h)(e:H a=some (.ins C dx fs)):∃mA,ObjM h a dx C mA/\(∀f,RelO (fs.lookup f) (mA f))/\PySem.Within mA (fs.map (·.1))/\fs.length<=1000/\H dx=some (.own a):=by
 obtain⟨d,z,i,j,mA,n,r,q⟩:=(show ObjOk P w H h a (.ins C dx fs) from b a _ e)
 exact⟨mA,⟨j,n,i⟩,r,q,z,d⟩
end
structure Cls(K:Frag)(C:Addr):Prop where
 pg:PySem.W.plainGet K C Str.empty=true
 hd:PySem.W.hasDictIn K C=true
 po:PySem.W.plainOver K C=true
 sa:PySem.W.findIn K (.ref C) "__setattr__" = some (some (.builtin "object.__setattr__"))
def Cls.get{K:Frag}{C:Af}(c:Cls K C)(f:Str):PySem.W.plainGet K C f=true:=c.pg
def NoAttr(K:Frag)(C:Af)(f:Str):Prop:=PySem.W.findIn K (.ref C) f=some none
def NoAttr.taker{K:Frag}{C:Af}{f:Str}(n:NoAttr K C f):PySem.W.takerIn K C f=some none:=by
 unfold PySem.W.takerIn;rw[show PySem.W.findIn K (.ref C) f=some none from n]
 rfl
structure Zdz(K:Frag)(C:Addr)(m:Str)(f:Addr):Prop where
 at_:PySem.W.findIn K (.ref C) m=some (some (.ref f))
 fn:PySem.W.isFn K (.ref f)=true
 kp:keepIn K (.ref f)=true
section
variable {X:Cx}{aa:Ab (Af×Obj)}{σ:St}{H:Hp}{s:Ac}{a C dx:Af}{fs:Ab (Str×V)}{f:Str}{v:V}{A:Ai}{E:Ad->Ac->Prop}
def Z3n(I:Inv X aa σ H s)(e:H a=some (.ins C dx fs))(c:Cls X.K C)(n:NoAttr X.K C f)(l:fs.lookup f=some v)
  (h:∀u s',Inv X aa σ H s'->RelV v u->Q u s'):wpAny (model X.prog X.w) A (getAttr (.ref a) f b) Q E s:=by
 obtain⟨mA,O,r,_,_,_⟩:=B6 I.hok e;obtain⟨u,j,i⟩:=RelO.some_of (v:=v) (o:=mA f) (by rw[<- l];exact r f);exact Za3 I.kIn O (c.get f) c.hd n j (Z5R i) (h u _ (I.tok _) i)
def Z3m(I:Inv X aa σ H s)(e:H a=some (.ins C dx fs))(c:Cls X.K C)(k:Zdz X.K C m g)(l:fs.lookup m=none)
  (h:Q (.ref g,[.ref a]) s):wpAny (model X.prog X.w) A (getMethod (.ref a) m pl) Q E s:=by
 obtain⟨mA,O,r,_,_,_⟩:=B6 I.hok e;have b:mA m=none:=RelO.none_of (by rw[<- l];exact r m);exact Z7T I.kIn O (c.get m) k.at_ k.fn b h
def Z2F(I:Inv X aa σ H s)(e:H a=some (.ins C dx fs))(c:Cls X.K C)(n:NoAttr X.K C f)(t:fs.length<1000)(l:RelV y u)
  (h:∀s',Inv X aa σ (upd H a (.ins C dx (lH f y fs))) s'->Q () s'):wpAny (model X.prog X.w) A (setAttr (.ref a) f u) Q E s:=by
 obtain⟨mA,O,r,j,_,i⟩:=B6 I.hok e;have p:(fs.map (·.1)).length<=sizeLine:=by rw[Qad,sizeLine_eq];omega
 refine Z8Q I.kIn O c.sa c.po n.taker c.hd j p λh' O' sb=>h _ ?_;have hd:∃o,h'.get? dx=some o:=let ⟨o,_,_,e',_⟩:=O'.ns;⟨o,e'⟩;refine I.write (x:=a) (e:=dx) (by rw[e];exact True.intro) (.inr i) (λb q hb z=>(sb.2 b hb).trans z) hd ?_;refine⟨by rw[aY O.ne];exact i,?_,O.ne,O'.obj,_,O'.ns,λg=>?_,λg hg=>?_⟩
 .have:=yZ f y fs;omega
 .show RelO ((lH f y fs).lookup g) (if g=f then some u else mA g);rw[yX];by_cases q:g=f
  .rw[if_pos q,if_pos q];exact l
  .rw[if_neg q,if_neg q];exact r g
 .by_cases q:g=f
  .rw[q];exact(yA f y fs).1
  .refine(yA f y fs).2 g (j g λz=>hg ?_);show(if g=f then some u else mA g)=none;rw[if_neg q];exact z
def Inv.made(I:Inv X aa σ H s):Inv X aa σ (upd (upd H s.heap.objs.size (.own (s.heap.objs.size+1))) (s.heap.objs.size+1) (.ins C s.heap.objs.size []))
  { s with heap:=(s.heap.push PySem.W.emptyDict).push (PySem.W.instObj C s.heap.objs.size) }:=by
 have f:(s.heap.push PySem.W.emptyDict).get? s.heap.objs.size=some PySem.W.emptyDict:=Qas s.heap rfl;have i:((s.heap.push PySem.W.emptyDict).push (PySem.W.instObj C s.heap.objs.size)).get? (s.heap.objs.size+1)=some (PySem.W.instObj C s.heap.objs.size):=by
  have:=Qas (s.heap.push PySem.W.emptyDict) (o:=PySem.W.instObj C s.heap.objs.size) rfl
  rwa [Qbp]at this
 have l:(s.heap.push PySem.W.emptyDict).Ns s.heap.objs.size (λ_=>none):=⟨PySem.W.emptyDict,#[],_,f,rfl,(λe he=>absurd he (by simp)),λ_=>rfl⟩;have j:=I.laid (a:=s.heap.objs.size) (o:=.own (s.heap.objs.size+1)) (h':=s.heap.push PySem.W.emptyDict) (t':=s.toks) (λb u q=>Qac _ q) (Qap _) ⟨_,f⟩;refine j.laid (a:=s.heap.objs.size+1) (o:=.ins C s.heap.objs.size []) (t':=s.toks) (λb u q=>Qac _ q) (Nat.le_of_eq (Qbp _ _)) ?_;have h:s.heap.objs.size≠s.heap.objs.size+1:=QaA (Nat.lt_succ_self _);refine⟨by rw[aY h,bC],QaY _,h,i,λ_=>none,(Heap.Ns1.of_empty l).at λo q=>Qac _ q,λ_=>True.intro,λy hy=>absurd rfl hy⟩
def Zau(a:attributeBase e f ac (eval e ac)=eval e ac)
  (h:wpAny (model prog w) A (eval e ac) (λo s₁=>wpAny (model prog w) A (getAttr o f true) Q E s₁) E s):wpAny (model prog w) A (eval (.Attribute e f ai) ac) Q E s :=
 Attribute_any_ h (by rw[arm_eval_Attribute,a])
end
def ZdU(K:Frag)(ta:TE)(f:Str):TE:=λσ H Q=>ta σ H λx H1=>∃a C dx fs v,x=.ref a/\H1 a=some (.ins C dx fs)/\Cls K C/\NoAttr K C f/\fs.lookup f=some v/\Q v H1
def Z6Q(K:Frag)(ta tv:TE)(f:Str):TS:=λD σ H=>tv σ H λy H1=>ta σ H1 λx H2=>∃a C dx fs,x=.ref a/\H2 a=some (.ins C dx fs)/\Cls K C/\NoAttr K C f/\fs.length<1000 /\
 D.nx σ (upd H2 a (.ins C dx (lH f y fs)))
section
variable {X:Cx}{o e value:Ag}{f:Str}{ai pos':Pos}{ta tv:TE}
def ZbS(he:PE X e ta)(b:attributeBase e f X.env (eval e X.env)=eval e X.env):PE X (.Attribute e f ai) (ZdU X.K ta f):=by
 intro aa s σ H Q I h;refine Zau b (thn (he aa s σ H _ I h) λu s1 ⟨x,H1,I1,rx,a,C,dx,fs,v,ex,ea,c,n,l,q⟩=>?_);subst ex;obtain rfl:u=Value.ref a:=rx;exact Z3n I1 ea c n l λu' s2 I2 ru=>⟨v,H1,I2,ru,q⟩
def xQ(b:PE X o ta)(i:PE X value tv)(hs:swapsWith value (some (.Attribute o f pos')) ai.line X.env=pure false):PS X (.Assign [.Attribute o f pos'] value ai) (Z6Q X.K ta tv f):=by
 intro aa s σ H D I h;refine plainObj_wpAny_Assign_Attribute (thn (i aa s σ H _ I h) λu s1 ⟨y,H1,I1,ry,q⟩=>thn (b aa s1 σ H1 _ I1 q) λov s2 ⟨x,H2,I2,rx,a,C,dx,fs,ex,ea,c,n,l,q2⟩=>?_) hs;subst ex;obtain rfl:ov=Value.ref a:=rx;exact Z2F I2 ea c n l ry λs3 I3=>⟨σ,_,I3,q2⟩
end
section
variable {X:Cx}{aa:Ab (Af×Obj)}{σ:St}{H:Hp}{s:Ac}{A:Ai}{E:Ad->Ac->Prop}{Q:Ad->Ac->Prop}{c:Ad}{b:Bool}
inductive O0(K:Frag)(H:Hp):V->Value->Prop where
 |non:O0 K H .non (.type "NoneType")
 |bl (x:Bool):O0 K H (.bl x) (.type "bool")
 |int (i:Int):O0 K H (.int i) (.type "int")
 |str (x:Str):O0 K H (.str x) (.type "str")
 |flt (x:UInt64):O0 K H (.flt x) (.type "float")
 |lst {a:Addr}{xs:List V}(e:H a=some (.lst xs)):O0 K H (.ref a) (.type "list")
 |frz {a:Addr}{o:Obj}{xs:List V}(e:H a=some (.frz o (.lst xs))):O0 K H (.ref a) (.type "list")
 |tup {a:Addr}{xs:List V}(e:H a=some (.tup xs)):O0 K H (.ref a) (.type "tuple")
 |dK {a:Addr}{kvs:List (Key×V)}(e:H a=some (.dK kvs)):O0 K H (.ref a) (.type "dict")
 | ins {a C dx:Addr}{fs:List (Str × V)}(e:H a=some (.ins C dx fs)) (cl:Cls K C) (ha:PySem.W.findIn K (.ref C) "__class__" = some (some (.builtin "object.__class__")))
   (hn:PySem.W.specialIn K (.builtin "object.__class__") "__get__" = some (some (.builtin "getset_descriptor.__get__"))) (htk:PySem.W.takesIn K (.builtin "object.__class__")=some true)
   (hm:PySem.W.mroIn K C (.type "object")=some true):O0 K H (.ref a) (.ref C)
def sW(I:Inv X aa σ H s)(f:RelV x u)(ty:O0 X.K H x t)(e:PySem.W.kitOne X.K t c=some b)(h:∀tk,Q (.bool b) { s with toks:=tk }) :
  wpAny (model X.prog X.w) A (call (.builtin "isinstance") [u,c]) Q E s:=by
 cases ty with
 |non=>cases (show u=Value.none from f);exact QaQ PySem.W.kitx_none I.kIn True.intro e (λz=>nomatch z) h
 |bl y=>cases (show u=Value.bool y from f);exact QaQ PySem.W.kitx_bool I.kIn True.intro e (λz=>nomatch z) h
 |int i=>obtain⟨t,q⟩:=(show ∃t,u=Value.int i t from f);cases q;exact QaQ PySem.W.kitx_int I.kIn True.intro e (λz=>nomatch z) h
 |str y=>obtain⟨t,q⟩:=(show ∃t,u=Value.str y t from f);cases q;exact QaQ PySem.W.kitx_str I.kIn True.intro e (λz=>nomatch z) h
 |flt y=>obtain⟨t,q⟩:=(show ∃t,u=Value.float y t from f);cases q;exact QaQ PySem.W.kitx_float I.kIn True.intro e (λz=>nomatch z) h
 | @lst a xs ea =>
  cases (show u=Value.ref a from f)
  obtain⟨_,_,n,_,h1⟩:=(show ObjOk X.prog X.w H s.heap a (.lst xs) from I.hok a _ ea)
  exact QaQ PySem.W.kitx_list I.kIn ⟨_,h1,rfl⟩ e (λz=>nomatch z) h
 | @frz a ob xs ea =>
  cases (show u=Value.ref a from f)
  obtain⟨_,_,_,n,_,h1⟩:=(show ObjOk X.prog X.w H s.heap a (.frz ob (.lst xs)) from I.hok a _ ea)
  exact QaQ PySem.W.kitx_list I.kIn ⟨_,h1,rfl⟩ e (λz=>nomatch z) h
 | @tup a xs ea =>
  cases (show u=Value.ref a from f)
  obtain⟨_,_,_,p⟩:=(show ObjOk X.prog X.w H s.heap a (.tup xs) from I.hok a _ ea)
  obtain⟨o,h1,h2,_⟩:=p;exact QaQ PySem.W.kitx_tuple I.kIn ⟨o,h1,h2⟩ e (λz=>nomatch z) h
 | @dK a kvs ea =>
  cases (show u=Value.ref a from f)
  obtain⟨_,_,vs,_,p⟩:=(show ObjOk X.prog X.w H s.heap a (.dK kvs) from I.hok a _ ea)
  obtain⟨o,es,ep,h1,h2,_⟩:=p;exact QaQ PySem.W.kitx_dict I.kIn ⟨o,h1,h2.1⟩ e (λz=>nomatch z) h
 | @ins a C dx fs ea cl ha hn htk hm =>
  cases (show u=Value.ref a from f)
  obtain⟨mA,O,_⟩:=B6 I.hok ea;obtain⟨j,J,_⟩:=O.look;exact QaQ (PySem.W.kitx_own (cl.get _) cl.hd ha hn htk hm) I.kIn J e (λz=>nomatch z) h
end
structure Room(k:Nat)(A:Around):Prop where
 hd:A.handled=none
 dp:A.depth+3*k+5<recursionLimit
 un:A.units+16*k+200<cLine
def Room.mono(r:Room k A)(h:j<=k):Room j A:=⟨r.hd,by have:=r.dp;omega,by have:=r.un;omega⟩
theorem Room.deeper(r:Room (k+1) A)(ac:Env):Room k (A.deeper ac) :=
 ⟨r.hd,by have:=r.dp;show A.depth+1+3*k+5<_;omega,by have:=r.un;show A.units+3+16*k+200<_;omega⟩
def Z3a{A:Ai}{C:Af}{us:Ab Ad}{kw:Ab (Str×Ad)}:(A.under (.builtin "type.__call__" ⟨.ref C::us,kw⟩)).depth=A.depth+1:=by
 first|rfl|simp[Around.under,Code.weight,Code.isCreation,Code.isGuard,Code.isCaller,Code.frames,Code.isFrame,guardIds]
def Z39{A:Ai}{C:Af}{us:Ab Ad}{kw:Ab (Str×Ad)}:(A.under (.builtin "type.__call__" ⟨.ref C::us,kw⟩)).units=A.units+1:=by
 first|rfl|simp[Around.under,Code.cUnits,Code.frames,Code.isFrame]
def Room.make(r:Room (k+1) A)(C:Af)(us:Ab Ad)(kw:Ab (Str×Ad)):Room k (A.under (.builtin "type.__call__" ⟨.ref C::us,kw⟩)) :=
 ⟨r.hd,by have:=r.dp;rw[Z3a];omega,by have:=r.un;rw[Z39];omega⟩
theorem Room.depth(r:Room k A):A.depth<recursionLimit:=by have:=r.dp;omega
theorem Room.units(r:Room k A):A.units+64<cLine:=by have:=r.un;omega
def Z8F:TA:=λ_ H Q=>Q [] H
def Z6x(ta:TE)(tr:TA):TA:=λσ H Q=>ta σ H λx H1=>tr σ H1 λxs H2=>Q (x::xs) H2
section
variable {X:Cx}{e:Ag}{es:Ab Ag}{te:TE}{t:TA}{ai:Pos}
def pa_nil:PA X [] Z8F:=λ_ _ _ _ H Q I h=>Calls.spliced_nil ⟨[],H,I,.nil,h⟩
def pa_cons(a:PE X e te)(b:PA X es t)(hs:sEa e es X.env:=by rfl):PA X (e::es) (Z6x te t):=by
 intro ai aa s σ H Q I h;rw[hs];show wpAny _ _ (spliced ((false,eval e X.env)::backTo ai (starEach es X.env))) _ _ s;refine Calls.spliced_cons (thn (a aa s σ H _ I h) λu s1 ⟨x,H1,I1,r1,q1⟩=>?_);exact thn (b ai aa s1 σ H1 _ I1 q1) λus s2 ⟨xs,H2,I2,r2,q2⟩=>⟨x::xs,H2,I2,.cons r1 r2,q2⟩
def ZdN(t:TA):TE:=λσ H Q=>t σ H λxs H1=>xs.length<=sizeLine/\∀p,H1 p=none->Q (.ref p) (upd H1 p (.tup xs))
def ZdR(t:TA):TE:=λσ H Q=>t σ H λxs H1=>xs.length<=sizeLine/\∀p,H1 p=none->Q (.ref p) (upd H1 p (.lst xs))
def pe_tup(h:PA X es t):PE X (.Tuple es x1 ai) (ZdN t):=by
 intro aa s σ H Q I hq;refine wpAny_Tuple_spliced (thn (h ai aa s σ H _ I hq) λus s1 ⟨xs,H1,I1,r,z,q⟩=>⟨by rw[<- r.length];exact z,?_⟩);have a:H1 s1.heap.objs.size=none:=I1.hok.fresh (Qap _);refine⟨.ref s1.heap.objs.size,upd H1 s1.heap.objs.size (.tup xs),I1.laid (t':=s1.toks) (λb u e=>Qac _ e) (Qap _) ?_,rfl,q _ a⟩;exact⟨z,us,r,⟨_,Qas _ rfl,rfl,_,rfl⟩⟩
def pe_lst(h:PA X es t):PE X (.List es ai) (ZdR t):=by
 intro aa s σ H Q I hq;refine wpAny_List_spliced (thn (h ai aa s σ H _ I hq) λus s1 ⟨xs,H1,I1,r,z,q⟩=>⟨by rw[<- r.length];exact z,?_⟩);have a:H1 s1.heap.objs.size=none:=I1.hok.fresh (Qap _);refine⟨.ref s1.heap.objs.size,upd H1 s1.heap.objs.size (.lst xs),I1.laid (t':=s1.toks) (λb u e=>Qac _ e) (Qap _) ?_,rfl,q _ a⟩;exact⟨z,us,0,r,Qas _ rfl⟩
end
abbrev Sp:=Ab V->Hp->VK->XK->Prop
abbrev CXT:=Ab Env->Hp->Ac->XK->Ad->Ac->Prop
structure Env0(P:Program)(w:World)(K:Frag)(mg:Str->Option Value)(base:Heap)(A:Around)(outer:List Env)(s:Shared)(H:Hp):Prop where
 frames:A.frames=some outer
 mod:Mod K mg base
 bs:∀b o,base.get? b=some o->s.heap.get? b=some o/\H b=none
 bsz:base.objs.size<=s.heap.objs.size
 funs:s.heap.FunFrames base outer
 frf:∀b∈frs outer,H b=none
 hok:HOk P w H s.heap
 bare:AllBare s.gens
def CE(af:Ab Env)(P:Aj)(w:Ak)(H:Hp)(s:Ac)(Q:VK)(u:Ad)(s':Ac):Prop :=
 ∃v H',s'.os=s.os/\AllBare s'.gens/\Un (frs af) [] H H' s.heap s'.heap/\HOk P w H' s'.heap/\RelV v u/\Q v H'
def CR(CX:CXT)(af:Ab Env)(P:Aj)(w:Ak)(H:Hp)(s:Ac)(Q:VK)(E:XK)(r:Result)(s':Ac):Prop :=
 match r with
 | .ok (.ret u)=>CE af P w H s Q u s'
 | .ok _=>False
 | .error e=>CX af H s E e s'
structure jK(P:Program)(w:World)(K:Frag)(mg:Str->Option Value)(base:Heap)(CX:CXT)(k:Nat)(f:Addr)(fd:FuncData)(ps:List Str)(sp:Sp):Prop where
 len:∀vs H Q E,sp vs H Q E->vs.length=ps.length
 run:∀(A:Ai) (outer:Ab Env) (s:Ac) (H:Hp) (args:Args) (us:Ab Ad) (vs:Ab V) (Q:VK) (E:XK),Room k A->Env0 P w K mg base A outer s H->BindsTo s fd args (ps.zip us)->Vals vs us->sp vs H Q E ->
  codeAny (model P w) A (.call (.ref f) args) (CR CX outer P w H s Q E) s
def Env0.make{P:Aj}{w:Ak}{K:Frag}{mg:Str->Aa Ad}{ad:Ah}{A:Ai}{af:Ab Env}{s:Ac}{H:Hp}(e:Env0 P w K mg ad A af s H)(C:Af)(us:Ab Ad)(kw:Ab (Str×Ad)) :
  Env0 P w K mg ad (A.under (.builtin "type.__call__" ⟨.ref C::us,kw⟩)) af s H:=⟨by first|exact e.frames|(simpa[Around.under,Code.envs,Code.isFrame,pushEnvs]using e.frames),e.mod,e.bs,e.bsz,e.funs,e.frf,e.hok,e.bare⟩
section
variable {X:Cx}{aa:Ab (Af×Obj)}{σ:St}{H:Hp}{s s':Ac}
def Inv.env0(I:Inv X aa σ H s):Env0 X.prog X.w X.K X.mg X.base X.A X.stack s H :=
 ⟨I.ok.frames,I.ok.mod,I.bs,Qay I.ok.bsz I.sz,I.stack,I.stkFree,I.hok,I.bare⟩
def Inv.after(I:Inv X aa σ H s)(h:CE X.stack X.prog X.w H s Q u s'):EP X aa σ Q u s':=by
 obtain⟨v,H',os,a,un,i,r,q⟩:=h;obtain⟨j,g,d,t,f⟩:=s';obtain rfl:f=s.os:=os;exact⟨v,H',I.call (h':=j) (g':=g) (d':=d) (t':=t) (ch:=[]) un i a (λb z=>absurd z (by simp)),r,q⟩
end
def ZcL(sp:Sp)(dvs:Ab V)(E:XK)(t:TA):TE:=λσ H Q=>t σ H λvs H1=>sp (vs++dvs) H1 Q E
def ZaE(C:Af)(sp:Sp)(dvs:Ab V)(E:XK)(t:TA):TE:=λσ H Q=>t σ H λvs H1=>∀x dx,H1 x=none->H1 dx=none->dx≠x ->
 sp (.ref x::(vs++dvs)) (upd (upd H1 dx (.own x)) x (.ins C dx [])) (λv H2=>v=.non/\Q (.ref x) H2) E
def Binds(K:Frag)(fd:FuncData)(ps:Ab Str)(ds:Ab Ad):Prop :=
 ∀(s:Ac) (us:Ab Ad),K.In s.heap->(us++ds).length=ps.length->BindsTo s fd ⟨us,[]⟩ (ps.zip (us++ds))
def Binds.all{K:Frag}{fd:FuncData}{ps:Ab Str}(h:∀us:Ab Ad,us.length=ps.length->bindArgs fd ⟨us,[]⟩=pure (ps.zip us)):Binds K fd ps []:=λs us _ hl=>by
 rw[QaN]at hl ⊢;exact .of_eq (h us hl)
def pV(CX:CXT)(X:Cx)(E:XK):Prop:=∀(aa:Ab (Af×Obj)) (σ:St) (H:Hp) (s:Ac) (e:Ad) (s':Ac),Inv X aa σ H s->CX X.stack H s E e s'->X.xe e s'
section
variable {X:Cx}{CX:CXT}{k:Nat}{f C:Af}{fd:FuncData}{ps:Ab Str}{sp:Sp}{dvs:Ab V}{ds:Ab Ad}{E:XK}{x:Str}{p ai:Pos}{e:Ag}{es:Ab Ag}{t:TA}
def Zbs(F:jK X.prog X.w X.K X.mg X.base CX k f fd ps sp)(j:Room k X.A)(b:Binds X.K fd ps ds)(hd:Vals dvs ds)(l:pV CX X E)
  (I:Inv X aa σ H s) (r:Vals vs us) (h:sp (vs++dvs) H Q E):wpAny (model X.prog X.w) X.A (call (.ref f) us) (EP X aa σ Q) X.xe s:=by
 have a:Vals (vs++dvs) (us++ds):=r.append hd;have i:(us++ds).length=ps.length:=by rw[<- a.length];exact F.len _ _ _ _ h
 refine wpAny_call (codeAny_mono (F.run X.A X.stack s H ⟨us,[]⟩ (us++ds) (vs++dvs) Q E j I.env0 (b s us I.kIn i) a h) λr s' hq=>?_);cases r with
 |error e=>exact l aa σ H s e s' I hq
 |ok fl =>
  cases fl with
  |ret u=>exact I.after hq
  |next=>exact False.elim hq
  |brk=>exact False.elim hq
  |cont=>exact False.elim hq
def pe_call(F:jK X.prog X.w X.K X.mg X.base CX k f fd ps sp)(o:Room k X.A)(n:Gl X x)(u:X.mg x=some (.ref f))(l:keepIn X.K (.ref f)=true)(j:Binds X.K fd ps ds)(hd:Vals dvs ds)(b:pV CX X E)
  (i:PA X (e::es) t) (a:nDb x:=by decide) (he:sEa e es X.env:=by rfl) (hpl:bTa ai es X.env:=by rfl) :
  PE X (.Call (.Name x p) (e::es) [] ai) (ZcL sp dvs E t):=by
 intro aa s σ H Q I h;refine Rg (B5 I n u ?_ a);refine PySem.W.callWith_K (h₀:=X.base) I.ok.mod.kin l (thn (i ai aa s σ H _ I h) λus s1 ⟨vs,H1,I1,r,q⟩=>⟨I1.kIn,?_⟩) he hpl;exact Zbs F o j hd b I1 r q
structure Mk(K:Frag)(C f:Addr):Prop where
 makes:PySem.W.makesIn K C=true
 init:PySem.W.findIn K (.ref C) "__init__" = some (some (.ref f))
 fn:PySem.W.isFn K (.ref f)=true
 kp:keepIn K (.ref C)=true
def Z1h(M:Mk X.K C f)(F:jK X.prog X.w X.K X.mg X.base CX k f fd ps sp)(q:Room (k+1) X.A)(j:Binds X.K fd ps ds)(hd:Vals dvs ds)
  (t:pV CX X E) (I:Inv X aa σ H s) (r:Vals vs us)
  (h:∀x dx,H x=none->H dx=none->dx≠x->sp (.ref x::(vs++dvs)) (upd (upd H dx (.own x)) x (.ins C dx [])) (λv H2=>v=.non/\Q (.ref x) H2) E) :
  wpAny (model X.prog X.w) X.A (call (.ref C) us) (EP X aa σ Q) X.xe s:=by
 have hq:=h (s.heap.objs.size+1) s.heap.objs.size (I.hok.fresh (Nat.le_succ _)) (I.hok.fresh (Qap _)) (QaA (Nat.lt_succ_self _));have a:=Inv.made (C:=C) I;have b:Vals (V.ref (s.heap.objs.size+1)::(vs++dvs)) (Value.ref (s.heap.objs.size+1)::(us++ds)):=.cons rfl (r.append hd);have p:(Value.ref (s.heap.objs.size+1)::us++ds).length=ps.length:=by
  have e:=b.length;rw[F.len _ _ _ _ hq]at e;exact e.symm
 refine wpAny_call (Z7B (f:=f) I.kIn M.makes M.init (beq_iff_eq.mp M.fn) (codeAny_mono (F.run _ X.stack _ _ ⟨Value.ref (s.heap.objs.size+1)::us,[]⟩ (Value.ref (s.heap.objs.size+1)::(us++ds)) _ _ E (q.make C us [])
  (a.env0.make C us []) (j _ (Value.ref (s.heap.objs.size+1)::us) a.kIn p) b hq) λr s' hq'=>?_))
 cases r with
 |error e=>exact t aa σ _ _ e s' a hq'
 |ok fl =>
  cases fl with
  |ret u =>
   obtain⟨v,H',l,o,n,i⟩:=a.after hq';subst n;exact⟨o,⟨V.ref (s.heap.objs.size+1),H',l,rfl,i⟩⟩
  |next=>exact False.elim hq'
  |brk=>exact False.elim hq'
  |cont=>exact False.elim hq'
def pe_make(M:Mk X.K C f)(F:jK X.prog X.w X.K X.mg X.base CX k f fd ps sp)(n:Room (k+1) X.A)(l:Gl X x)(o:X.mg x=some (.ref C))(j:Binds X.K fd ps ds)(hd:Vals dvs ds)(b:pV CX X E)
  (i:PA X (e::es) t) (a:nDb x:=by decide) (he:sEa e es X.env:=by rfl) (hpl:bTa ai es X.env:=by rfl) :
  PE X (.Call (.Name x p) (e::es) [] ai) (ZaE C sp dvs E t):=by
 intro aa s σ H Q I h;refine Rg (B5 I l o ?_ a);refine PySem.W.callWith_K (h₀:=X.base) I.ok.mod.kin M.kp (thn (i ai aa s σ H _ I h) λus s1 ⟨vs,H1,I1,r,q⟩=>⟨I1.kIn,?_⟩) he hpl;exact Z1h M F n j hd b I1 r q
def pe_make0(M:Mk X.K C f)(F:jK X.prog X.w X.K X.mg X.base CX k f fd ps sp)(l:Room (k+1) X.A)(j:Gl X x)(b:X.mg x=some (.ref C))(n:Binds X.K fd ps ds)(hd:Vals dvs ds)(i:pV CX X E)
  (a:nDb x:=by decide):PE X (.Call (.Name x p) [] [] ai) (ZaE C sp dvs E Z8F):=by
 intro aa s σ H Q I h;refine Rg (B5 I j b ?_ a);exact PySem.W.callWith_K0 I.kIn M.kp (Z1h (us:=[]) M F l n hd i I .nil h)
end
structure fL(N P:List Str)(sc:Scope):Prop where
 kind:sc.kind=.function
 co:sc.isCoroutine=false
 gen:sc.isGenerator=false
 nd:N.Nodup
 pre:N.take P.length=P
 par:∀x∈P,sc.names.lookup x=some .local\/sc.names.lookup x=some .cell
 nofree:∀y∈sc.names,y.2 ≠ .free
def Rn{N P:List Str}{sc:Scope}(a:sc.kind=.function:=by rfl)(b:sc.isCoroutine=false:=by rfl)(c:sc.isGenerator=false:=by rfl)(d:N.Nodup:=by decide +kernel)(e:N.take P.length=P:=by rfl)(f:∀x∈P,sc.names.lookup x=some .local\/sc.names.lookup x=some .cell:=by decide +kernel)(g:∀y∈sc.names,y.2 ≠ .free:=by decide +kernel):fL N P sc:=⟨a,b,c,d,e,f,g⟩
theorem V4{b:Str->Aa NameKind}{x:Str}:∀{a:Ab (Str×Ad)}{m:Str->Aa Ad},(∀v,(x,v)∉a)->bindL b a m x=m x
 |[],_,_=>rfl
 |(n,v)::r,m,h=>by
  unfold bindL;rw[V4 λw hw=>h w (Qaa _ hw)];split
  .have:x≠n:=by rintro rfl;exact h v Qag
   simp[this]
  .rfl
theorem V6{b:Str->Aa NameKind}{x:Str}:∀{a:Ab (Str×Ad)}{m:Str->Aa Ad},(∀v,(x,v)∉a)->bindC b a m x=m x
 |[],_,_=>rfl
 |(n,v)::r,m,h=>by
  unfold bindC;rw[V6 λw hw=>h w (Qaa _ hw)];split
  .rfl
  .have:x≠n:=by rintro rfl;exact h v Qag
   simp[this]
theorem V5{a:Str->Aa NameKind}{x:Str}{v:Ad}:∀{P:Ab Str}{vs:Ab Ad}{i:Nat}{m:Str->Aa Ad},P.Nodup->P[i]?=some x->vs[i]?=some v->a x=some .local ->
  bindL a (P.zip vs) m x=some v
 |[],_,_,_,_,h,_,_=>by simp at h
 |_::_,[],_,_,_,_,h,_=>by simp at h
 |p::P,w::vs,0,m,nd,h1,h2,hk=>by
  simp at h1 h2;subst h1;subst h2;show bindL a ((p,w)::P.zip vs) m p=_;unfold bindL;rw[V4 λv hv=>(Qav.mp nd).1 (List.of_mem_zip hv).1,if_pos hk];simp
 |p::P,w::vs,i+1,m,nd,h1,h2,hk=>by
  show bindL a ((p,w)::P.zip vs) m x=_;unfold bindL;exact V5 (i:=i) (Qav.mp nd).2 (by simpa using h1) (by simpa using h2) hk
theorem V7{a:Str->Aa NameKind}{x:Str}{v:Ad}:∀{P:Ab Str}{vs:Ab Ad}{i:Nat}{m:Str->Aa Ad},P.Nodup->P[i]?=some x->vs[i]?=some v->a x≠some .local ->
  bindC a (P.zip vs) m x=some v
 |[],_,_,_,_,h,_,_=>by simp at h
 |_::_,[],_,_,_,_,h,_=>by simp at h
 |p::P,w::vs,0,m,nd,h1,h2,hk=>by
  simp at h1 h2;subst h1;subst h2;show bindC a ((p,w)::P.zip vs) m p=_;unfold bindC;rw[V6 λv hv=>(Qav.mp nd).1 (List.of_mem_zip hv).1,if_neg hk];simp
 |p::P,w::vs,i+1,m,nd,h1,h2,hk=>by
  show bindC a ((p,w)::P.zip vs) m x=_;unfold bindC;exact V7 (i:=i) (Qav.mp nd).2 (by simpa using h1) (by simpa using h2) hk
def start(N:Ab Str)(vs:Ab V):St:=vs.map some++List.replicate (N.length-vs.length) none
def yK(CX:CXT)(P:Aj)(w:Ak)(K:Frag)(mg:Str->Aa Ad)(ad:Ah)(N:Ab Str)(ah:Str)(ag:Scope)(f:Af)(cd:Ad)(A:Ai)(af:Ab Env)(s:Ac)(H:Hp)(E:XK):Cx where
 prog:=P
 w:=w
 K:=K
 mg:=mg
 base:=ad
 A:=A.deeper (envOfC ah ag s.heap.objs.size f cd)
 N:=N
 s₀:=s
 H₀:=H
 env:=envOfC ah ag s.heap.objs.size f cd
 outer:=af
 stack:=envOfC ah ag s.heap.objs.size f cd::af
 ex:=[]
 calm:=true
 fn:=λ_=>true
 pn:=[]
 xe:=λe s'=>wpAny (model P w) (A.deeper (envOfC ah ag s.heap.objs.size f cd)) («leaving» (envOfC ah ag s.heap.objs.size f cd) e) (λ_ s''=>CX af H s E e s'') (λe' s''=>CX af H s E e' s'') s'
def Z2d{sc:Scope}{n:Nat}{x:Str}(h:sc.names.lookup x=some .cell):∃c,(cellsFrom n sc.names []).lookup x=some c:=by
 have q:=PySem.W.cellsFrom_some sc.names n [] (.inl h);exact QaW.mp q
def Z5M{CX:CXT}{P:Aj}{w:Ak}{K:Frag}{mg:Str->Aa Ad}{ad:Ah}{N ps:Ab Str}{ah:Str}{ag:Scope}{f:Af}{cd:Ad}{A:Ai}{af:Ab Env}{s s1:Ac}{H:Hp}{E:XK}{us:Ab Ad}{vs:Ab V}
  (S:fL N ps ag) (hd:A.handled=none) (j:Env0 P w K mg ad A af s H) (I:vs.length=ps.length) (r:Vals vs us)
  (x:InCallC s s.heap.objs.size (bindL (envOfC ah ag s.heap.objs.size f cd).kindOf (ps.zip us) λ_=>none) (cellsFrom (s.heap.objs.size+1) ag.names []) (bindC (envOfC ah ag s.heap.objs.size f cd).kindOf (ps.zip us) λ_=>none) s1) :
  Inv (yK CX P w K mg ad N ah ag f cd A af s H E) [] (start N vs) H s1:=by
 have hpl:ps.length<=N.length:=by have:=congrArg List.length S.pre;rw[QaV]at this;omega
 obtain⟨h1,tk,rfl,B⟩:=x.done;have o:∀b:Af,b∉(yK CX P w K mg ad N ah ag f cd A af s H E).ex:=λb z=>absurd (show b∈([]:Ab Af) from z) (by simp)
 refine⟨⟨j.mod,S.kind,rfl,rfl,Qap _,λy z c h1 h2=>?_,λy l=>?_,λy c _ h=>?_,λ_=>hd,Around.frames_deeper j.frames,.inr ⟨rfl,rfl⟩,λb z=>absurd z (o b),j.bs,j.bsz,λb _ _=>o b,λb z=>absurd z (o b),j.funs,j.frf⟩,
  rfl,j.bare,Un.kept B,⟨_,x.toInCall.ns,λi y v h1 h2 h3=>?_⟩,λy c h=>⟨_,x.cell y c h⟩,j.hok.fresh (Qap _),λy c h=>?_,λp hp=>absurd (show p∈([]:Ab (Af×Obj)) from hp) (by simp),j.hok.kept B,?_⟩
 .exact name_of_addr x.apart (PySem.mem_of_lookup h1) (PySem.mem_of_lookup h2)
 .have l:ag.names.lookup y=some .cell\/ag.names.lookup y=some .free:=l;rcases l with l|l
  .exact Z2d l
  .exact absurd rfl (S.nofree _ (PySem.mem_of_lookup l))
 .exact Qbh (x.above y c (PySem.mem_of_lookup h))
 .have hi:i<vs.length:=by
   unfold start at h2;by_cases hi:i<vs.length
   .exact hi
   .rw[Qa3 (by simpa using hi)]at h2;rw[Qbi]at h2;split at h2<;>cases h2
  have F:vs[i]?=some v:=by
   unfold start at h2;rw[QaI (by simpa using hi),Qax]at h2;cases e:vs[i]? with
   |none=>rw[e]at h2;cases h2
   |some a=>rw[e]at h2;cases h2;rfl
  obtain⟨u,C,G⟩:=r.get F;have hp:ps[i]?=some y:=by
   rw[<- S.pre,List.getElem?_take_of_lt (by omega)];exact h1
  have t:ps.Nodup:=by rw[<- S.pre];exact S.nd.sublist (List.take_sublist _ _)
  refine⟨u,G,?_⟩;rcases S.par y (QaE hp)with k|k
  .exact .inl ⟨k,V5 t hp C k⟩
  .obtain⟨c,e⟩:=Z2d (n:=s.heap.objs.size+1) k;refine .inr ⟨.inl k,c,e,?_⟩;have q:=x.cell y c e;rw[V7 t hp C (by show ag.names.lookup y≠_;rw[k];decide)]at q;exact q
 .exact j.hok.fresh (Qbh (x.above y c (PySem.mem_of_lookup h)))
 .unfold start;show _=N.length;rw[Qaj,Qad,List.length_replicate];omega
def Z1V{CX:CXT}{P:Aj}{w:Ak}{K:Frag}{mg:Str->Aa Ad}{ad:Ah}{k:Nat}{f:Af}{name ah:Str}{h:Arguments}{body:Ab Stmt}{ag:Scope}{C kV l F a ct R:Ad}{an U:Aa Af}
  {M:Ae (Aa Ad)}{N ps:Ab Str}{sp:Sp}(T:K.lookup f=some ⟨R,U,.func (fnOf name ah h body ag C kV l F an a ct),M⟩) (O:codeIn K a ah=true) (S:fL N ps ag)
  (len:∀vs H Q E,sp vs H Q E->vs.length=ps.length)
  (j:∀ (A:Ai) (af:Ab Env) (s:Ac) (H:Hp) (vs:Ab V) (Q:VK) (E:XK),Room k (A.deeper (envOfC ah ag s.heap.objs.size f a))->sp vs H Q E ->
   ∃t,PSs (yK CX P w K mg ad N ah ag f a A af s H E) body t/\t { nx:=λ_ H'=>Q .non H',rt:=Q } (start N vs) H) :
  jK P w K mg ad CX (k+1) f (fnOf name ah h body ag C kV l F an a ct) ps sp:=by
 refine⟨len,λA af s H args us vs Q E hr e0 hb r hsp=>?_⟩;have X:=len _ _ _ _ hsp;have G:K.In s.heap:=e0.mod.kin.keeps λb o e=>(e0.bs b o e).1;have L:s.heap.NoLimit:=e0.mod.nolimit.keeps λb o e=>(e0.bs b o e).1;have i:∀y∈ps.zip us,ag.names.lookup y.1=some .local\/(ag.names.lookup y.1=some .cell/\((cellsFrom (s.heap.objs.size+1) ag.names []).lookup y.1).isSome=true):=λ⟨n,v⟩ hy=>by
  rcases S.par n (List.of_mem_zip hy).1 with q|q
  .exact .inl q
  .exact .inr ⟨q,PySem.W.cellsFrom_some _ _ _ (.inl q)⟩
 refine codeAny_call_function hr.depth (G _ _ T) rfl S.co S.gen rfl (PySem.W.codeRec_of G O) (hb _ _ _ _ ?_);refine wpAny_newFunctionEnv_cells S.kind i λac he s1 x=>?_;subst he;refine⟨L.keeps x.toInCall.keep,codeAny_func ?_⟩;obtain⟨t,Y,hq⟩:=j A af s H vs Q E (hr.deeper _) hsp;have I:Inv (yK CX P w K mg ad N ah ag f a A af s H E) [] (start N vs) H s1:=Z5M S hr.hd e0 X r x;refine Rc (Y [] s1 (start N vs) H _ I hq) (λfl s' hs=>?_) λe s' hs=>hs;have p:∀{σ':St}{H':Hp}{v:V}{u:Ad},Inv (yK CX P w K mg ad N ah ag f a A af s H E) [] σ' H' s'->RelV v u->Q v H'->CE af P w H s Q u s' :=
  λ{σ' H' v u} J B q=>⟨v,H',J.os,J.bare,J.base,J.hok,B,q⟩
 cases fl with
 |ret u =>
  obtain⟨v,σ',H',J,B,q⟩:=hs;exact p J B q
 |next =>
  obtain⟨σ',H',J,q⟩:=hs;exact p (v:=V.non) (u:=Value.none) J rfl q
 |brk =>
  obtain⟨_,_,_,q⟩:=hs;exact False.elim q
 |cont =>
  obtain⟨_,_,_,q⟩:=hs;exact False.elim q
section
variable {X:Cx}{x:Str}{p ai:Pos}{e:Ag}{es:Ab Ag}{t:TA}{id T:String}{r:Ab V->Hp->VK->Prop}
def tCB(r:Ab V->Hp->VK->Prop)(t:TA):TE:=λσ H Q=>t σ H λvs H1=>r vs H1 Q
def pe_callB(hc:CallR X (.builtin id) r)(i:Gl X x)(b:X.mg x=none)(l:bootBuiltins x=some (.builtin id))(f:PA X (e::es) t)(j:x ≠ "__name__":=by decide)(a:nDb x:=by decide)
  (he:sEa e es X.env:=by rfl) (hpl:bTa ai es X.env:=by rfl):PE X (.Call (.Name x p) (e::es) [] ai) (tCB r t):=by
 intro aa s σ H Q I h;refine Rg (uU I i b l ?_ j a);exact PyProof.Rows.callWith_builtin1 (thn (f ai aa s σ H _ I h) λus s1 ⟨vs,H1,I1,r1,q1⟩=>hc aa s1 σ H1 vs us Q I1 r1 q1) he hpl
def pe_callTy(hc:CallR X (.type T) r)(i:Gl X x)(b:X.mg x=none)(l:bootBuiltins x=some (.type T))(f:PA X (e::es) t)(j:x ≠ "__name__":=by decide)(a:nDb x:=by decide)
  (he:sEa e es X.env:=by rfl) (hpl:bTa ai es X.env:=by rfl):PE X (.Call (.Name x p) (e::es) [] ai) (tCB r t):=by
 intro aa s σ H Q I h;refine Rg (uU I i b l ?_ j a);exact PyProof.Rows.callWith_type1 (thn (f ai aa s σ H _ I h) λus s1 ⟨vs,H1,I1,r1,q1⟩=>hc aa s1 σ H1 vs us Q I1 r1 q1) he hpl
end
end L2
namespace HT
open PySem PyProof.Rows
section
variable {prog:Aj}{w:Ak}{A:Ai}{E:Ad->Ac->Prop}{s:Ac}
def sIx(n d:Nat):Aa Int->Nat
 |none=>d
 |some v=>if v<0 then(v+(n:Int)).toNat else min v.toNat n
def sIx_none(n d:Nat):sIx n d none=d:=rfl
def sIx_nat(n d k:Nat):sIx n d (some (k:Int))=min k n:=by
 show(if (k:Int)<0 then((k:Int)+(n:Int)).toNat else min (k:Int).toNat n)=min k n;rw[if_neg (by omega),Int.toNat_natCast]
def Zbq(n d:Nat)(hd:d<=n)(o:Aa Int):sIx n d o<=n:=by
 cases o with
 |none=>exact hd
 |some v =>
  show(if v<0 then(v+(n:Int)).toNat else min v.toNat n)<=n;by_cases a:v<0
  .rw[if_pos a];omega
  .rw[if_neg a];exact Nat.min_le_right _ _
def Z4H(v:Int)(n d:Nat):(if v<0 then max (v+(n:Int)) 0 else min v (n:Int))=((sIx n d (some v):Nat):Int):=by
 show(if v<0 then max (v+(n:Int)) 0 else min v (n:Int))=(((if v<0 then(v+(n:Int)).toNat else min v.toNat n):Nat):Int);by_cases a:v<0
 .simp only[if_pos a];omega
 .simp only[if_neg a];omega
def Z3B(lo hi:Aa Int)(n:Nat):Builtin.Slice.sliceAdjust lo hi 1 (n:Int)=(((sIx n 0 lo:Nat):Int),((sIx n n hi:Nat):Int)):=by
 have h1:¬((1:Int)<0):=by omega
 unfold Builtin.Slice.sliceAdjust;simp only[h1,Rl];refine Prod.ext ?_ ?_
 .cases lo with
  |none=>rfl
  |some v=>exact Z4H v n 0
 .cases hi with
  |none=>rfl
  |some v=>exact Z4H v n n
def Z2X(i j:Nat):Builtin.Slice.slicePlaces (i:Int) (j:Int) 1=j-i:=by
 unfold Builtin.Slice.slicePlaces;have h1:(1:Int) > 0:=by omega
 simp only[h1,Rk,Int.ediv_one];split<;>omega
def D4(p:IsPart v o)(h:Q o s):wpAny (model prog w) A (Builtin.Slice.slicePartIndex v) Q E s:=by
 cases p with
 |none=>exact slicePart_none h
 |int i t=>exact slicePart_int h
theorem xF{sl:Af}{vl vu:Ad}{lo hi:Aa Int}{n:Nat}{Q:Int×Int×Nat->Ac->Prop}(hs:s.heap.IsSliceOf sl vl vu .none)(pl:IsPart vl lo)(pu:IsPart vu hi)
  (h:Q (((sIx n 0 lo:Nat):Int),1,sIx n n hi-sIx n 0 lo) s):wpAny (model prog w) A (Builtin.Slice.sliceApplied (.ref sl) (pure (n:Int))) Q E s:=by
 obtain⟨os,hos,hcs,hds⟩:=id hs;unfold Builtin.Slice.sliceApplied Builtin.Slice.sliceFields;refine Ra (Ra (wpAny_field hos hds (x:=vl) rfl (Ra (wpAny_field hos hds (x:=vu) rfl (Ra (wpAny_field hos hds (x:=.none) rfl (Rb ?_)))))));refine Ra (slicePart_none ?_);show wpAny _ _ (if ((1:Int)==0)=true then _ else _) _ _ s;rw[if_neg (by decide)];refine Ra (D4 pl (Ra (D4 pu (Ra (Rb ?_)))));show wpAny _ _ (match Builtin.Slice.sliceAdjust lo hi 1 (n:Int) with|(lo,hi)=>pure (lo,(1:Int),Builtin.Slice.slicePlaces lo hi 1)) _ _ s
 rw[Z3B lo hi n];show wpAny _ _ (pure (((sIx n 0 lo:Nat):Int),(1:Int),Builtin.Slice.slicePlaces ((sIx n 0 lo:Nat):Int) ((sIx n n hi:Nat):Int) 1)) _ _ s;rw[Z2X];exact Rb h
def Z7j(xs:Ae Ad)(i k:Nat):((List.range k).filterMap λ(m:Nat)=>xs[((i:Int)+(m:Int)*1).toNat]?).toArray=((xs.toList.drop i).take k).toArray:=by
 have e:(λ(m:Nat)=>xs[((i:Int)+(m:Int)*1).toNat]?)=λm=>xs[i+m]?:=by
  funext m;have:((i:Int)+(m:Int)*1).toNat=i+m:=by omega
  rw[this]
 rw[e];have:=pick_run xs i k;rw[List.filterMap_map]at this;have a:((λx=>xs[x]?) ∘ λx=>i+x)=λm=>xs[i+m]?:=rfl;rw[a]at this;rw[this]
def getItem_tuple_cut{t i:Af}{a:Ae Ad}{o p:Ad}{lo hi:Aa Int}{Q:Ad->Ac->Prop}(f:IsTup s.heap t a)(hs:s.heap.IsSliceOf i o p .none)(pl:IsPart o lo)(u:IsPart p hi)
  (hw:¬(sIx a.size 0 lo=0/\sIx a.size a.size hi=a.size))
  (h:Q (.ref s.heap.objs.size) { s with heap:=s.heap.push { cls:=.type "tuple",data:=.seq ((a.toList.drop (sIx a.size 0 lo)).take (sIx a.size a.size hi-sIx a.size 0 lo)).toArray } })
  (hsz:a.size<=sizeLine):wpAny (model prog w) A (getItem (.ref t) (.ref i)) Q E s:=by
 have b:sizeOk (.seq ((a.toList.drop (sIx a.size 0 lo)).take (sIx a.size a.size hi-sIx a.size 0 lo)).toArray):=by
  show((a.toList.drop (sIx a.size 0 lo)).take (sIx a.size a.size hi-sIx a.size 0 lo)).toArray.size<=sizeLine;rw[Qat,QaV,Qa2,Qbj];omega
 have y:sIx a.size a.size hi<=a.size:=Zbq _ _ (Qap _) hi;obtain⟨os,r,n,v⟩:=id hs;have j:s.TypeIs (.ref i) "slice":=⟨os,r,n⟩;unfold getItem
 try with_reducible refine wpAny_holding ?_
 first|refine Ra (Rb ?_)|skip
 refine Ra (wpAny_sequenceKey f.typeIs (by decide) ?_);refine Ra (wpAny_callSpecial?_slot (name:=Str.ofString "__getitem__") f.typeIs PyProof.Rows.slot_tuple_getitem
  (Rf PyProof.Rows.slot_tuple_getitem f.typeIs entry_tuple_getitem ?_ (args_tuple_getitem _ _)))
 show wpAny _ _ (Builtin.Tuple.tupleItemsOf (.ref t) >>= _) _ _ s;refine Ra (tupleItemsOf_ f ?_);refine Ra (wpAny_typeOf j ?_);rw[if_pos (by decide)];refine Ra (xF hs pl u ?_);have l:¬((((sIx a.size 0 lo:Nat):Int)==0&&(1:Int)==1&&(sIx a.size a.size hi-sIx a.size 0 lo)==a.size)=true):=by
  intro q;rw[Qak,Qak]at q;have x:((sIx a.size 0 lo:Nat):Int)=0:=eq_of_beq q.1.1;have B:sIx a.size a.size hi-sIx a.size 0 lo=a.size:=eq_of_beq q.2;exact hw ⟨by omega,by omega⟩
 show wpAny _ _ (if (((sIx a.size 0 lo:Nat):Int)==0&&(1:Int)==1&&(sIx a.size a.size hi-sIx a.size 0 lo)==a.size)=true then _ else _) _ _ s;rw[if_neg l,Z7j]
 first
  |exact Ra (m:=Builtin.Tuple.tupleExact _) (Re (Rb ⟨_,rfl,Rb h⟩) b)
  |exact Ra (m:=Builtin.Tuple.tupleExact _) (Re (Ra (Rb (Rb ⟨_,rfl,Rb h⟩))) b)
  |exact Ra (Ra (m:=Builtin.Tuple.tupleExact _) (Re (Rb (Rb ⟨_,rfl,Rb h⟩)) b))
  |exact Ra (Ra (m:=Builtin.Tuple.tupleExact _) (Re (Rb ⟨_,rfl,Rb h⟩) b))
end
end HT
namespace L2
open PySem PySem.Spec PyProof.Rows
abbrev TO:=St->Hp->(Aa Int->Hp->Prop)->Prop
def PO(X:Cx)(e:Aa Ag)(t:TO):Prop :=
 ∀(aa:Ab (Af×Obj)) (s:Ac) (σ:St) (H:Hp) (Q:Aa Int->Hp->Prop),Inv X aa σ H s->t σ H Q ->
  wpAny (model X.prog X.w) X.A (evalPart e X.env) (λu s'=>∃o H',Inv X aa σ H' s'/\IsPart u o/\Q o H') X.xe s
def Z8E:TO:=λ_ H Q=>Q none H
def ZcF(t:TE):TO:=λσ H Q=>t σ H λx H1=>∃i,x=.int i/\Q (some i) H1
section
variable {X:Cx}{e:Ag}{te:TE}{lo hi:Aa Ag}{tl th:TO}{ai p2:Pos}
def Z9y:PO X none Z8E:=by
 intro aa s σ H Q I h;rw[evalPart_none];exact Rb ⟨none,H,I,.none,h⟩
def Z9x(h:PE X e te):PO X (some e) (ZcF te):=by
 intro aa s σ H Q I hw;rw[evalPart_some];refine thn (h aa s σ H _ I hw) λu s1 ⟨x,H1,I1,r1,q1⟩=>?_;obtain⟨i,rfl,q⟩:=q1;obtain⟨t,rfl⟩:=r1;exact⟨some i,H1,I1,.int i t,q⟩
def SlR(X:Cx)(r:V->Aa Int->Aa Int->Hp->VK->Prop):Prop :=
 ∀(aa:Ab (Af×Obj)) (s:Ac) (σ:St) (H:Hp) (x:V) (v vl vu:Ad) (lo hi:Aa Int) (sl:Af) (Q:VK),Inv X aa σ H s->RelV x v->s.heap.IsSliceOf sl vl vu .none->IsPart vl lo->IsPart vu hi->r x lo hi H Q ->
  ∃T id,typeLookup (.type T) "__getitem__" = pure (some (.builtin id))/\s.TypeIs v T/\wpAny (model X.prog X.w) X.A (getItem v (.ref sl)) (EP X aa σ Q) X.xe s
def SlR.or(h:SlR X r)(h':SlR X r'):SlR X (λx lo hi H Q=>r x lo hi H Q\/r' x lo hi H Q):=by
 intro aa s σ H x v i j lo hi b Q I f hs pl a q;rcases q with q|q
 .exact h aa s σ H x v i j lo hi b Q I f hs pl a q
 .exact h' aa s σ H x v i j lo hi b Q I f hs pl a q
def tSl(r:V->Aa Int->Aa Int->Hp->VK->Prop)(te:TE)(tl th:TO):TE:=λσ H Q=>te σ H λx H1=>tl σ H1 λl H2=>th σ H2 λu H3=>r x l u H3 Q
def pe_slice(j:SlR X r)(he:PE X e te)(n:PO X lo tl)(f:PO X hi th):PE X (.Subscript e (.Slice lo hi none p2) ai) (tSl r te tl th):=by
 intro aa s σ H Q I h;refine Subscript_ (thn (he aa s σ H _ I h) λv s1 ⟨x,H1,I1,r1,q1⟩=>?_);refine wpAny_Slice (thn (n aa s1 σ H1 _ I1 q1) λvl s2 ⟨l,H2,I2,pl,q2⟩=>thn (f aa s2 σ H2 _ I2 q2) λvu s3 ⟨u,H3,I3,pu,q3⟩=>?_);rw[evalPart_none];refine Rb ?_;have o:Inv X aa σ H3 { s3 with heap:=s3.heap.push { cls:=.type "slice",data:=.fields #[vl,vu,.none] } }:=I3.kept (t':=s3.toks) λb ob q=>Qac _ q;obtain⟨T,id,a,p,i⟩:=j aa { s3 with heap:=s3.heap.push { cls:=.type "slice",data:=.fields #[vl,vu,.none] } } σ H3 x v vl vu l u s3.heap.objs.size Q o r1 (Heap.IsSliceOf.new ..) pl pu q3;show wpAny (model X.prog X.w) X.A (subscriptTail e (.Slice lo hi none p2) v (.ref s3.heap.objs.size)) (EP X aa σ Q) X.xe { s3 with heap:=s3.heap.push { cls:=.type "slice",data:=.fields #[vl,vu,.none] } };exact tail_any (ops:=[.ref s3.heap.objs.size,v]) p a i (by with_unfolding_all rfl)
def Z29(xs:Ab V)(lo hi:Aa Int):Ab V:=(xs.drop (HT.sIx xs.length 0 lo)).take (HT.sIx xs.length xs.length hi-HT.sIx xs.length 0 lo)
def zH(xs:Ab V)(lo hi:Aa Int):(Z29 xs lo hi).length<=xs.length:=by
 unfold Z29;rw[QaV,Qa2];omega
def Ze1(K:Frag):V->Aa Int->Aa Int->Hp->VK->Prop:=λx lo hi H Q=>∃a xs,x=.ref a/\SqT K H a xs /\
 ¬(HT.sIx xs.length 0 lo=0/\HT.sIx xs.length xs.length hi=xs.length)/\∀p,H p=none->Q (.ref p) (upd H p (.tup (Z29 xs lo hi)))
def Z6E:SlR X (Ze1 X.K):=by
 intro aa s σ H x v u w lo hi t Q I p hs pl n h;obtain⟨a,xs,rfl,l,hw,q⟩:=h;cases p;obtain⟨ak,r,j,i⟩:=I.tuple l;have f:ak.toArray.size=xs.length:=by rw[Qat];exact r.length.symm
 refine⟨"tuple",_,PyProof.Rows.slot_tuple_getitem.lookup,j.typeIs,?_⟩;refine HT.getItem_tuple_cut j hs pl n (by rw[f];exact hw) ?_ (by rw[f];exact i);rw[f];refine⟨.ref s.heap.objs.size,_,I.laid (t':=s.toks) (o:=.tup (Z29 xs lo hi)) (λb ob q=>Qac _ q) (Qap _) ?_,rfl,q _ (I.hok.fresh (Qap _))⟩;exact⟨Qay (zH xs lo hi) i,_,(r.drop (HT.sIx xs.length 0 lo)).take (HT.sIx xs.length xs.length hi-HT.sIx xs.length 0 lo),IsTup.new _ _⟩
end
def ixN(n:Nat)(i:Int):Aa Nat:=if 0<=i then(if i<n then some i.toNat else none) else if -(n:Int)<=i then some (i+n).toNat else none
def atI{α:Type}(xs:Ab α)(i:Int):Aa α:=(ixN xs.length i).bind λj=>xs[j]?
def Za1(h:ixN n i=some j):seqIndex? i n=some j/\j<n /\ -(n:Int)<=i/\i<n:=by
 unfold ixN at h;by_cases a:0<=i
 .rw[if_pos a]at h;by_cases h1:i<n
  .rw[if_pos h1]at h;have e:i.toNat=j:=QaF h;exact⟨by rw[seqIndex_of a h1,e],by omega,by omega,h1⟩
  .rw[if_neg h1]at h;cases h
 .rw[if_neg a]at h;by_cases h1:-(n:Int)<=i
  .rw[if_pos h1]at h;have e:(i+n).toNat=j:=QaF h;exact⟨by rw[seqIndex_neg (by omega) h1,e],by omega,h1,by omega⟩
  .rw[if_neg h1]at h;cases h
def Z0U(h:atI xs i=some v):∃j,seqIndex? i xs.length=some j/\xs[j]?=some v/\j<xs.length /\ -(xs.length:Int)<=i/\i<xs.length:=by
 unfold atI at h;cases e:ixN xs.length i with
 |none=>rw[e]at h;cases h
 |some j =>
  rw[e]at h;obtain⟨h1,h2,h3,a⟩:=Za1 e;exact⟨j,h1,h,h2,h3,a⟩
def nO{α:Type}{xs:Ab α}{j:Nat}{v:α}(h:xs[j]?=some v):atI xs (j:Int)=some v:=by
 have a:j<xs.length:=(Qah.mp h).1;have e:ixN xs.length (j:Int)=some j:=by
  unfold ixN;rw[if_pos (by omega),if_pos (by omega)];simp
 unfold atI;rw[e];exact h
def Z2n(xs:Ab α)(v:α):atI (xs++[v]) (-1)=some v:=by
 have a:(xs++[v]).length=xs.length+1:=by simp
 have e:ixN (xs++[v]).length (-1)=some xs.length:=by
  unfold ixN;rw[a,if_neg (by decide),if_pos (by omega)];congr 1;omega
 unfold atI;rw[e];show(xs++[v])[xs.length]?=some v;simp
def xC(b:Ag):Prop:=∀o i,subscripted b false o i=operate [o,i] (getItem o i)
def IxR(X:Cx)(r:R2):Prop :=
 ∀(value slice:Ag) (aa:Ab (Af×Obj)) (s:Ac) (σ:St) (H:Hp) (x y:V) (v u:Ad) (Q:VK),Inv X aa σ H s->RelV x v->RelV y u->r x y H Q ->
  subscripted slice false v u=operate [v,u] (getItem v u)->wpAny (model X.prog X.w) X.A (subscriptTail value slice v u) (EP X aa σ Q) X.xe s
def MtR(X:Cx)(id:String)(r:V->Ab V->Hp->VK->Prop):Prop :=
 ∀(aa:Ab (Af×Obj)) (s:Ac) (σ:St) (H:Hp) (x:V) (xs:Ab V) (v:Ad) (us:Ab Ad) (Q:VK),Inv X aa σ H s->RelV x v->Vals xs us->r x xs H Q ->
  wpAny (model X.prog X.w) X.A (call (.builtin id) (v::us)) (EP X aa σ Q) X.xe s
section
variable {X:Cx}{a b:Ag}{ta tb:TE}{ai:Pos}
def IxR.or(h:IxR X r)(h':IxR X r'):IxR X (λx y H Q=>r x y H Q\/r' x y H Q):=by
 intro value a aa s σ H x y v u Q I b f q hs;rcases q with q|q
 .exact h value a aa s σ H x y v u Q I b f q hs
 .exact h' value a aa s σ H x y v u Q I b f q hs
def Z4c(i:IxR X r)(f:PE X a ta)(j:PE X b tb)(hs:xC b):PE X (.Subscript a b ai) (tOp r ta tb):=by
 intro aa s σ H Q I h;exact Subscript_ (Zcm f j I h λv u s2 x y H2 I2 rx ry q=>i a b aa s2 σ H2 x y v u Q I2 rx ry q (hs _ _))
def ZcX(K:Frag):R2:=λx y H Q=>∃p xs i v,x=.ref p/\y=.int i/\SqL K H p xs/\atI xs i=some v/\Q v H
def ZcV(K:Frag):R2:=λx y H Q=>∃p xs i v,x=.ref p/\y=.int i/\SqT K H p xs/\atI xs i=some v/\Q v H
def ZcW:R2:=λx y H Q=>∃z i c,x=.str z/\y=.int i/\z.length<=sizeLine/\atI z.cps.toList i=some c/\Q (.str ⟨#[c]⟩) H
def ix_list:IxR X (ZcX X.K):=by
 intro value o aa s σ H x y v u Q I E F h hs;obtain⟨p,xs,i,z,rfl,rfl,hq,he,q⟩:=h;cases E;obtain⟨t,rfl⟩:=F;obtain⟨ak,r,pl,J⟩:=I.list hq;obtain⟨j,h1,h2,h3,A,C⟩:=Z0U he;obtain⟨w,f,l⟩:=r.get h2;have B:=r.length;have G:=J9;have a:EP X aa σ Q w s:=⟨z,H,I,l,q⟩;by_cases n:0<=i
 .have b:i.toNat=j:=by
   rw[seqIndex_of n C]at h1;exact QaF h1
  exact item_listR pl.isList n (by omega) (by rw[b];simpa using f) a hs
 .have b:(i+(ak.toArray.size:Int)).toNat=j:=by
   rw[seqIndex_neg (by omega) A]at h1;rw[Qat,<- B];exact QaF h1
  exact subscriptTail_builtinR (x:=w) pl.isList.typeIs slot_list_getitem.lookup
   (wpAny_getItem_list_neg (Q:=λr s'=>r=w/\EP X aa σ Q r s') pl.isList (by omega) (by rw[Qat]<;>omega) (by omega) (by rw[b];simpa using f) ⟨rfl,a⟩) hs
def ix_tup:IxR X (ZcV X.K):=by
 intro value f aa s σ H x y v u Q I o A h hs;obtain⟨p,xs,i,z,rfl,rfl,hq,he,q⟩:=h;cases o;obtain⟨t,rfl⟩:=A;obtain⟨ak,r,pl,F⟩:=I.tuple hq;obtain⟨j,h1,h2,h3,B,C⟩:=Z0U he;obtain⟨w,l,a⟩:=r.get h2;have n:=r.length;have E:=J9;have b:EP X aa σ Q w s:=⟨z,H,I,a,q⟩;exact subscriptTail_builtinR (x:=w) pl.typeIs slot_tuple_getitem.lookup
  (getItem_tuple (j:=j) (Q:=λr s'=>r=w/\EP X aa σ Q r s') pl (by omega) (by omega) (by rw[Qat,<- n];exact h1) (by simpa using l) ⟨rfl,b⟩) hs
def Zc9:IxR X ZcW:=by
 intro value a aa s σ H x y v u Q I n r h hs;obtain⟨z,i,c,rfl,rfl,A,he,q⟩:=h;obtain⟨t,rfl⟩:=n;obtain⟨t',rfl⟩:=r;obtain⟨j,h1,h2,h3,o,b⟩:=Z0U he;have p:z.cps.toList.length=z.length:=by simp[Str.length]
 rw[p]at h1 o b;have w:=J9;exact tail_any (typeIs_str s z t) slot_str_getitem.lookup (getItem_str (c:=c) (by
  have f:decide (i < -(2^63:Int))=false:=Rh (by omega);have l:decide (i ≥ 2^63)=false:=Rh (by omega);rw[f,l,Bool.or_false]) (by rw[h1];simpa using h2) ⟨.str ⟨#[c]⟩,H,I.tok _,⟨_,rfl⟩,q⟩) hs
def rIx(K:Frag):R2:=λx y H Q=>ZcX K x y H Q\/ZcV K x y H Q\/ZcW x y H Q
def Z0j:IxR X (rIx X.K):=ix_list.or (ix_tup.or Zc9)
def X6(lo hi:Aa Int)(n:Nat):(sliceBounds lo hi none n).1=((HT.sIx n 0 lo:Nat):Int)/\(sliceBounds lo hi none n).2.1=((HT.sIx n n hi:Nat):Int)/\(sliceBounds lo hi none n).2.2=1:=by
 refine⟨?_,?_,rfl⟩
 .cases lo with
  |none=>simp[sliceBounds,HT.sIx]
  |some i =>
   simp only[sliceBounds,HT.sIx,Option.getD_none,show(1:Int) > 0 by decide,Rk];by_cases h:i<0
   .simp only[h,Rk]<;>omega
   .simp only[h,Rl]<;>omega
 .cases hi with
  |none=>simp[sliceBounds,HT.sIx]
  |some i =>
   simp only[sliceBounds,HT.sIx,Option.getD_none,show(1:Int) > 0 by decide,Rk];by_cases h:i<0
   .simp only[h,Rk]<;>omega
   .simp only[h,Rl]<;>omega
def O3(ak:Ab Ad)(lo hi:Aa Int):slicePick ak.toArray lo hi none=((ak.drop (HT.sIx ak.length 0 lo)).take (HT.sIx ak.length ak.length hi-HT.sIx ak.length 0 lo)).toArray:=by
 obtain⟨h1,h2,h3⟩:=X6 lo hi ak.toArray.size;unfold slicePick;rw[h1,h2,h3];simp only[sliceRange_one,pick_run,Qat]<;>rfl
def Ze3(K:Frag):V->Aa Int->Aa Int->Hp->VK->Prop:=λx lo hi H Q=>∃a xs,x=.ref a/\SqL K H a xs/\∀p,H p=none->Q (.ref p) (upd H p (.lst (Z29 xs lo hi)))
def Z3M:SlR X (Ze3 X.K):=by
 intro aa s σ H x v u w lo hi t Q I p hs pl l h;obtain⟨a,xs,rfl,j,q⟩:=h;cases p;obtain⟨ak,r,i,n⟩:=I.list j;have f:=r.length;refine⟨"list",_,slot_list_getitem.lookup,i.isList.typeIs,?_⟩;refine wpAny_getItem_list_slice i.isList hs pl l .none (by simp) ?_ (by rw[Qat]<;>omega);rw[O3,<- f];refine⟨.ref s.heap.objs.size,_,I.laid (t':=s.toks) (o:=.lst (Z29 xs lo hi)) (λb ob q=>Qac _ q) (Qap _) ?_,rfl,q _ (I.hok.fresh (Qap _))⟩;exact⟨Qay (zH xs lo hi) n,_,0,(r.drop (HT.sIx xs.length 0 lo)).take (HT.sIx xs.length xs.length hi-HT.sIx xs.length 0 lo),Qas _ rfl⟩
def Z07:OpR X (compareOp .NotIn) (λx y H Q=>∃i j,x=.str i/\y=.str j/\Q (.bl (!(!(Builtin.Str.occurrences j i 0 j.length 1).isEmpty))) H):=by
 intro aa s σ H x y v u Q I a b h;obtain⟨i,j,rfl,rfl,q⟩:=h;obtain⟨t,rfl⟩:=a;obtain⟨t',rfl⟩:=b;exact notIn_str ⟨.bl _,H,I,rfl,q⟩
def call_len_seq:CallR X (.builtin "len") (λxs H Q=>∃p ys,xs=[.ref p]/\(SqL X.K H p ys\/SqT X.K H p ys)/\Q (.int ys.length) H):=by
 intro aa s σ H xs us Q I r h;obtain⟨p,ys,rfl,hq,q⟩:=h;obtain⟨u,rfl,f⟩:=tS r;cases f;have j:=J9;rcases hq with hq|hq
 .obtain⟨ak,b,pl,i⟩:=I.list hq;have a:=b.length;exact Calls.call_len_list pl.isList (by simp only[Qat]<;>omega) ⟨.int ys.length,H,I.tok _,⟨s.toks+1,by rw[Qat,a]⟩,q⟩
 .obtain⟨ak,b,pl,i⟩:=I.tuple hq;have a:=b.length;exact len_tuple pl (by simp only[Qat]<;>omega) ⟨.int ys.length,H,I.tok _,⟨s.toks+1,by rw[Qat,a]⟩,q⟩
def Z0N:CallR X (.builtin "len") (λxs H Q=>∃z,xs=[.str z]/\z.length<=sizeLine/\Q (.int z.length) H):=by
 intro aa s σ H xs us Q I r h;obtain⟨z,rfl,b,q⟩:=h;obtain⟨u,rfl,t,rfl⟩:=tS r;have a:=J9;exact len_str (by omega) ⟨.int z.length,H,I.tok _,⟨_,rfl⟩,q⟩
def CallR.or(h:CallR X f r)(h':CallR X f r'):CallR X f (λxs H Q=>r xs H Q\/r' xs H Q):=by
 intro aa s σ H xs us Q I rs q;rcases q with q|q
 .exact h aa s σ H xs us Q I rs q
 .exact h' aa s σ H xs us Q I rs q
def Z0M:CallR X (.type "list") (λxs H Q=>∃p ys,xs=[.ref p]/\(SqL X.K H p ys\/SqT X.K H p ys)/\∀l,H l=none->Q (.ref l) (upd H l (.lst ys))):=by
 intro aa s σ H xs us Q I r h;obtain⟨p,ys,rfl,hq,q⟩:=h;obtain⟨u,rfl,x⟩:=tS r;cases x;have j:∀(ak:Ab Ad),Vals ys ak->ys.length<=sizeLine->∀(h':Ah) (c':Nat),(∀b o',s.heap.get? b=some o'->h'.get? b=some o') ->
   h'.get? s.heap.objs.size=some { cls:=.type "list",dict:=none,data:=.seq ak.toArray c',slots:=#[] }->EP X aa σ Q (.ref s.heap.objs.size) { s with heap:=h' }:=λak a i h' c' f e =>
  ⟨.ref s.heap.objs.size,_,I.laid (t':=s.toks) f (Qap _) (show ObjOk X.prog X.w _ h' _ (.lst ys) from⟨i,ak,c',a,e⟩),rfl,q _ (I.hok.fresh (Qap _))⟩
 rcases hq with hq|hq
 .obtain⟨ak,a,pl,i⟩:=I.list hq;have t:=a.length;obtain⟨o,v,hc,n,hd⟩:=pl.isList;exact call_list_seq p (.inl rfl) v hc hd (λh' c' f e=>j ak a i h' c' f e) (by simp only[Qat]<;>omega)
 .obtain⟨ak,a,pl,i⟩:=I.tuple hq;have t:=a.length;obtain⟨o,v,hc,n,hd⟩:=pl;exact call_list_seq p (.inr rfl) v hc hd (λh' c' f e=>j ak a i h' c' f e) (by simp only[Qat]<;>omega)
def uC:CallR X (.type "tuple") (λxs H Q=>∃p ys,xs=[.ref p]/\((SqL X.K H p ys/\∀l,H l=none->Q (.ref l) (upd H l (.tup ys)))\/(SqT X.K H p ys/\Q (.ref p) H))):=by
 intro aa s σ H xs us Q I r h;obtain⟨p,ys,rfl,h⟩:=h;obtain⟨u,rfl,t⟩:=tS r;cases t;rcases h with⟨hq,q⟩|⟨hq,q⟩
 .obtain⟨ak,a,pl,i⟩:=I.list hq;have j:=a.length;refine call_tuple_list pl.isList (λh' kp=>?_) (by simp only[Qat]<;>omega);have f:Inv X aa σ H { s with heap:=h' }:=I.kept (t':=s.toks) kp;have n:Inv X aa σ (upd H h'.objs.size (.tup ys)) { s with heap:=h'.push { cls:=.type "tuple",data:=.seq ak.toArray } } :=
   f.laid (t':=s.toks) (λb o e=>Qac _ e) (Qap _) (show ObjOk X.prog X.w _ _ _ (.tup ys) from⟨i,ak,a,IsTup.new _ _⟩)
  exact⟨.ref h'.objs.size,_,n,rfl,q _ (f.hok.fresh (Qap _))⟩
 .obtain⟨ak,a,pl,i⟩:=I.tuple hq;exact call_tuple_same pl ⟨.ref p,H,I,rfl,q⟩
def tyV(K:Frag)(T:String)(x:V)(H:Hp):Prop:=match x with
 | .str _=>T = "str"
 | .int _=>T = "int"
 | .ref p=>(T = "list" /\ ∃ xs,SqL K H p xs) \/ (T = "tuple" /\ ∃ o,K.lookup p=some o /\ o.cls=.type "tuple" /\ o.dict=none) \/
   (T = "dict" /\ ∃kvs,H p=some (.dK kvs))
 |_=>False
def Z6u(I:Inv X aa σ H s)(r:RelV x v)(ty:tyV X.K T x H) :
  s.TypeIs v T/\∀a,v=.ref a->∃ob,s.heap.get? a=some ob/\ob.dict=none:=by
 cases x with
 |str z =>
  obtain⟨t,rfl⟩:=r;cases (show T = "str" from ty)
  exact⟨typeIs_str s z t,λ_ e=>nomatch e⟩
 |int i =>
  obtain⟨t,rfl⟩:=r;cases (show T = "int" from ty)
  exact⟨typeIs_int s i t,λ_ e=>nomatch e⟩
 |ref p =>
  cases r;rcases ty with⟨rfl,xs,hq⟩|⟨rfl,o,b,hc,hd⟩|⟨rfl,kvs,b⟩
  .obtain⟨ak,_,pl,_⟩:=I.list hq;refine⟨pl.isList.typeIs,λa e=>?_⟩;cases e;obtain⟨o,n,e,c,hd,_⟩:=pl;exact⟨o,e,hd⟩
  .refine⟨⟨o,I.kIn p o b,hc⟩,λa e=>?_⟩;cases e;exact⟨o,I.kIn _ o b,hd⟩
  .obtain⟨_,_,_,_,o,_,_,e,ex,_⟩:=I.hok p _ b;refine⟨⟨o,e,ex.1⟩,λa e2=>?_⟩;cases e2;exact⟨o,e,ex.2.1⟩
 |_=>exact False.elim ty
def ZdW(K:Frag)(T:String)(r:V->Ab V->Hp->VK->Prop)(to:TE):TE:=λσ H Q=>to σ H λx H1=>tyV K T x H1/\r x [] H1 Q
def tBM(K:Frag)(T:String)(r:V->Ab V->Hp->VK->Prop)(to:TE)(t:TA):TE:=λσ H Q=>to σ H λx H1=>tyV K T x H1/\t σ H1 λxs H2=>r x xs H2 Q
variable {o e:Ag}{es:Ab Ag}{to:TE}{t:TA}{name:Str}{apos cpos:Pos}{T id:String}{r:V->Ab V->Hp->VK->Prop}
def ZbT(n:PlainAttrs T)(f:Slot T name id)(i:typeOf (.builtin id)=pure (.type "method_descriptor"))(j:MtR X id r)(l:PE X o to)
  (a:attributeBase o name X.env (eval o X.env)=eval o X.env:=by rfl) (b:(apos.endLine==cpos.line)=true:=by rfl):PE X (.Call (.Attribute o name apos) [] [] cpos) (ZdW X.K T r to):=by
 intro aa s σ H Q I h;refine wpAny_Call_method0_late a b (thn (l aa s σ H _ I h) λv s1 ⟨x,H1,I1,r1,ty,q1⟩=>?_);obtain⟨h1,h2⟩:=Z6u I1 r1 ty;exact⟨T,id,n,f,i,h1,h2,Calls.callWith_builtin rfl (PySem.evalArgs_none (j aa s1 σ H1 x [] v [] Q I1 r1 .nil q1))⟩
def S6(u:PlainAttrs T)(j:Slot T name id)(n:typeOf (.builtin id)=pure (.type "method_descriptor"))(w:MtR X id r)(p:PE X o to)(q:PA X (e::es) t)
  (f:attributeBase o name X.env (eval o X.env)=eval o X.env:=by rfl)
  (i:((backTo cpos (starEach (e :: es) X.env)).all (fun x=>!x.1) && (backToKw cpos (keywordEach [] X.env)).all (fun x=>x.1.isSome)
   && decide ((e::es).length+([]:Ab Keyword).length+(if ([]:Ab Keyword).isEmpty then 0 else 1)<30))=true:=by rfl)
  (b:(apos.endLine==cpos.line)=true:=by rfl) (hs:sEa e es X.env:=by rfl) (a:bTa cpos es X.env:=by rfl) :
  PE X (.Call (.Attribute o name apos) (e::es) [] cpos) (tBM X.K T r to t):=by
 intro aa s σ H Q I h;refine wpAny_Call_method_late f i b rfl (thn (p aa s σ H _ I h) λv s1 ⟨x,H1,I1,r1,ty,q1⟩=>?_);obtain⟨h1,h2⟩:=Z6u I1 r1 ty;refine⟨T,id,u,j,n,h1,h2,?_⟩;have l:=q cpos aa s1 σ H1 _ I1 q1;rw[hs]at l ⊢;refine Calls.callWith_builtin (by show(false||(backTo cpos (starEach es X.env)).any (·.1))=false;rw[a]<;>rfl) (Calls.evalArgs_plain ?_);exact thn l λus s2 ⟨vs,H2,I2,r2,q2⟩=>w aa s2 σ H2 x vs v us Q I2 r1 r2 q2
end
def MtM(X:Cx)(id:String)(r:V->Ab V->Hp->VK->Prop):Prop :=
 ∀(aa:Ab (Af×Obj)) (s:Ac) (σ:St) (H:Hp) (x:V) (xs:Ab V) (v:Ad) (us:Ab Ad) (Q:VK),Inv X aa σ H s->RelV x v->Vals xs us->r x xs H Q ->
  wpAny (model X.prog X.w) X.A (call (.builtin id) (v::us)) (EP X aa σ Q) X.xe s
def Vals.one:∀{x:V}{us:Ab Ad},Vals [x] us->∃u,us=[u]/\RelV x u
 |_,_,.cons r .nil=>⟨_,rfl,r⟩
section
variable {X:Cx}{aa:Ab (Af×Obj)}{σ:St}{H:Hp}{s:Ac}{l:Af}{xs ys:Ab V}
def Inv.lset{ak its':Ab Ad}{n:Nat}{f:Ae Ad->Ae Ad}{t':Nat}(I:Inv X aa σ H s)(a:H l=some (.lst xs))
  (e:s.heap.get? l=some { cls:=.type "list",data:=.seq ak.toArray n }) (b:f ak.toArray=its'.toArray) (h:Vals ys its') (i:ys.length<=sizeLine) :
  Inv X aa σ (upd H l (.lst ys)) { s with heap:=s.heap.update l (Obj.mapSeq f),toks:=t' }:=by
 have q:=PySem.IsL.update e f;rw[b]at q;refine I.write (x:=l) (e:=l) (by rw[a];exact trivial) (.inl rfl) (λb' u hb hu=>(Heap.get?_update_other s.heap (Obj.mapSeq f) (Ne.symm hb)).trans hu) ⟨_,q⟩ ?_;exact⟨i,its',_,h,q⟩
def Inv.lnew(I:Inv X aa σ H s)(a:Vals ys ak)(b:ys.length<=sizeLine) :
  Inv X aa σ (upd H s.heap.objs.size (.lst ys)) { s with heap:=s.heap.push { cls:=.type "list",data:=.seq ak.toArray },toks:=t' } :=
 I.laid (λ_ _ q=>Qac _ q) (Qap _) ⟨b,ak,0,a,Qas _ rfl⟩
theorem Inv.fresh(I:Inv X aa σ H s):H s.heap.objs.size=none:=I.hok.fresh (Qap _)
def Inv.lstM(I:Inv X aa σ H s)(a:H l=some (.lst xs)):xs.length<=sizeLine/\∃(ak:Ab Ad) (n:Nat),Vals xs ak/\xs.length=ak.length/\s.heap.get? l=some { cls:=.type "list",data:=.seq ak.toArray n }:=by
 obtain⟨z,ak,n,r,e⟩:=I.hok l _ a;exact⟨z,ak,n,r,r.length,e⟩
end
section
variable {X:Cx}
def Z5:V->Ab V->Hp->VK->Prop:=λx vs H Q=>∃l xs y,x=.ref l/\vs=[y]/\H l=some (.lst xs)/\xs.length<sizeLine/\Q .non (upd H l (.lst (xs++[y])))
def sR:MtM X "list.append" Z5:=by
 intro aa s σ H x vs v us Q I b i h;obtain⟨l,xs,y,rfl,rfl,a,o,q⟩:=h;cases b;obtain⟨u,rfl,f⟩:=i.one;obtain⟨z,ak,n,r,j,e⟩:=I.lstM a;refine call_meets F.slot_list_append ⟨_,e,rfl⟩ F.entry_list_append (F.args_list_append_2 _ _) (PySem.list_append l ak.toArray n u (by rw[Qat];omega)) ⟨e,?_⟩;refine⟨.non,_,I.lset (its':=ak++[u]) a e (by simp) (r.append (.cons f .nil)) ?_,rfl,q⟩;rw[Qaj,QaG];omega
def Zd0:R2:=λx y H Q=>∃l b xs zs,x=.ref l/\y=.ref b/\H l=some (.lst xs)/\H b=some (.lst zs)/\xs.length+zs.length<=sizeLine/\∀p,H p=none->Q (.ref p) (upd H p (.lst (xs++zs)))
def Z31:OpR X (binaryOp .Add) Zd0:=by
 intro aa s σ H x y v u Q I p w h;obtain⟨l,b,xs,E,rfl,rfl,i,j,G,q⟩:=h;cases p;cases w;obtain⟨z,ak,n,r,F,e⟩:=I.lstM i;obtain⟨C,a,B,t,A,o⟩:=I.lstM j;refine PySem.P.add_list e o ?_ (by rw[Qat,Qat];omega);have f:ak.toArray++a.toArray=(ak++a).toArray:=by simp
 rw[f];exact⟨.ref _,_,I.lnew (t':=s.toks) (r.append t) (by rw[Qaj];omega),rfl,q _ I.fresh⟩
end
section
set_option maxRecDepth 100000 in
end
end L2
namespace Att
open PySem PySem.W PySem.Calls PyProof.Rows
def zY:∀(ns:Ab Int) (vs:Ab Ad),WellAll P h vs (ns.map WData.int)->IntsAre vs ns:=by
 intro ns
 induction ns with
 |nil =>
  intro vs w;rw[Qa5]at w;cases w;exact .nil
 |cons n ns ih =>
  intro vs w;rw[Qan]at w;cases w with
  |cons a b =>
   cases a;exact .cons _ _ (ih _ b)
def Z53{l:OpenLaw}{n:Nat}(u:l.most=some n){P:Params}{h:Ah}{args:Ab WData}{f:Ab Ad}
  (b:l.row.toRowW.claim.pre args=true) (t:WellAll P h f args) :
  ∃a vs ns,f=[Value.ref a]/\args=[WData.list (ns.map WData.int)]/\h.get? a=some { cls:=.type "list",data:=.seq vs.toArray }/\IntsAre vs ns/\ns.length<=n:=by
 have p:WShape.hasAll [] args [.list .int]=true:=(pre_splitW b).1;have hc:l.pre.holds [] { args:=args }=true:=(pre_splitW b).2;obtain⟨d,r,rfl,h1,h2⟩:=hasAllW_cons p;obtain rfl:=hasAllW_nil h2;obtain⟨xs,rfl,h3⟩:=hasW_list h1;obtain⟨ns,rfl⟩:=items_int h3;have o:ns.length<=n:=by
  unfold OpenLaw.pre at hc;have j:(WTm.not (.lt (.lit (.int (n:Int))) (.len (.arg 0)))).holds [] { args:=[.list (ns.map .int)] }=true:=by
   have j:=(holds_andW hc).1;rw[u]at j;exact j
  have i:=condW_of j (w_not (w_lt w_lit (w_len_list (w_arg rfl))));rw[Qad]at i;refine Nat.le_of_not_lt λq=>?_;have v:(n:Int)<((ns.length:Nat):Int):=by omega
  first
   |(rw[Ri v]at i;exact absurd i (by decide))
   |(simp at i;omega)
 cases t with
 |cons w1 w2 =>
  cases w2;cases w1 with
  |list ho hall=>exact⟨_,_,ns,rfl,rfl,ho,zY ns _ hall,o⟩
def Z5o(l:OpenLaw)(args:Ab WData):l.row.toRowW.claim.post args (.bool true) args=true :=
 postW_of (r:=l.row.toRowW) (X:=(true==true))
  (show WShape.has [] (.bool true) .bool=true by first|rfl|decide|simp[WShape.has,WShape.arms,WShape.armsAll])
  (show(WTm.eq .res (.lit (.bool true))).value [] { args:=args,res:=some (.bool true),after:=args }=some (.bool (true==true)) from w_eq_bool (w_res rfl) w_lit) rfl
end Att
namespace L2
open PySem PySem.Spec PyProof.Rows
theorem sB:∀{vs:Ab Ad}{ns:Ab Int},IntsAre vs ns->Vals (ns.map V.int) vs
 |_,_,.nil=>.nil
 |_,_,.cons n t h=>.cons ⟨t,rfl⟩ (sB h)
def Zdy(H:Hp):Prop:=∀b,H b=none\/∃o xs,H b=some (.frz o (.lst xs))
def Z7E{P:Aj}{w:Ak}{K:Frag}{mg N:Str->Aa Ad}{CX:CXT}{k:Nat}{fa a:Af}{fd:FuncData}{x:Str}{sp:Sp}{s₁:Ac}{vs:Ab Ad}{ns:Ab Int}
  (U:K.In s₁.heap) (A:s₁.heap.Ns mainGlobals mg) (f:s₁.heap.Ns builtinsNs N) (X:∀x:Str,x ≠ "__name__" -> N x=bootBuiltins x) (L:s₁.heap.NoLimit) (hg:s₁.gens = #[])
  (t:s₁.heap.get? a=some { cls:=.type "list",data:=.seq vs.toArray }) (hi:IntsAre vs ns) (T:ns.length<=sizeLine) (hr:Room k callerA)
  (F:∀ad:Ah,K.In ad->ad.Ns mainGlobals mg->jK P w K mg ad CX k fa fd [x] sp) (y:∀(s:Ac) (u:Ad),BindsTo s fd ⟨[u],[]⟩ [(x,u)])
  (Z:∀H:Hp,Zdy H->SqL K H a (ns.map V.int)->sp [.ref a] H (λv _=>v=.bl true) λ_ _ _=>False)
  (Y:∀H e s',CX [] H s₁ (λ_ _ _=>False) e s'->False) :
  codeAny (model P w) callerA (.call (.ref fa) ⟨[.ref a],[]⟩) (λr s'=>r=.ok (.ret (.bool true))/\OldK s₁.heap s'.heap/\s'.os=s₁.os/\AllBare s'.gens) s₁:=by
 have R:=sB hi;have G:=hi.length
 -- from an abstract heap in which nothing but the script may be tracked
 have l:∀H:Hp,Zdy H->SqL K H a (ns.map V.int)->HOk P w H s₁.heap->(∀b,H b≠none->b=a)->(H a≠none->K.lookup a=none) ->
   codeAny (model P w) callerA (.call (.ref fa) ⟨[.ref a],[]⟩) (λr s'=>r=.ok (.ret (.bool true))/\OldK s₁.heap s'.heap/\s'.os=s₁.os/\AllBare s'.gens) s₁:=by
  intro H S hS C O hK;have i:∀{b:Af}{o:Obj},s₁.heap.get? b=some o->H b=none->(Z0p s₁.heap H).get? b=some o:=λe n=>Z7P e n;have W:∀{b:Af}{o:Obj}{es:Ae DictEntry}{ep:Nat},s₁.heap.get? b=some o->o.data=.dict es ep->H b=none:=λ{b o es ep} e d=>by
   cases q:H b with
   |none=>rfl
   |some u =>
    have M:b=a:=O b (by rw[q];simp);subst M;rw[t]at e;cases e;have d':Data.seq vs.toArray _=Data.dict es ep:=d;cases d'
  have j:∀{b:Af}{m:Str->Aa Ad},s₁.heap.Ns b m->(Z0p s₁.heap H).Ns b m:=λ{b m} ⟨o,es,ep,e,d,r⟩=>⟨o,es,ep,i e (W e d),d,r⟩;have B:K.In (Z0p s₁.heap H):=λb o e=>i (U b o e) (by
   cases q:H b with
   |none=>rfl
   |some u =>
    have M:b=a:=O b (by rw[q];simp);subst M;rw[hK (by rw[q];simp)]at e;cases e)
  have hM:Mod K mg (Z0p s₁.heap H):=⟨B,j A,⟨N,j f,X⟩,let ⟨mc,h1,h2⟩:=L;⟨mc,j h1,h2⟩⟩;have e0:Env0 P w K mg (Z0p s₁.heap H) callerA [] s₁ H:=⟨rfl,hM,λb o e=>Z9L e,Nat.le_of_eq (Z5Q _ _),trivial,λb f=>absurd (show b∈([]:Ab Af) from f) (by simp),C,.of_eq hg⟩
  refine codeAny_mono ((F _ B (j A)).run callerA [] s₁ H ⟨[.ref a],[]⟩ [.ref a] [.ref a] _ _ hr e0 (y s₁ (.ref a)) (.cons rfl .nil) (Z H S hS)) λr s' h=>?_;cases r with
  |error e=>exact(Y H e s' h).elim
  |ok fl =>
   cases fl with
   |next=>exact False.elim h
   |brk=>exact False.elim h
   |cont=>exact False.elim h
   |ret u =>
    obtain⟨v,H',os,I,un,E,r',q⟩:=h;have q':v=.bl true:=q;subst q';obtain rfl:u=Value.bool true:=r';refine⟨rfl,OldK.of_keep λb o e=>?_,os,I⟩;cases q:H b with
    |none=>exact un.keep b o e q (by intro z;exact absurd (show b∈([]:Ab Af) from z) (by simp)) (by simp)
    |some u =>
     rcases S b with z|⟨ob,xs,z⟩
     .rw[q]at z;cases z
     .have z2:=un.frzs b ob _ z;obtain⟨Q,_⟩:=C b _ z;obtain⟨e2,_⟩:=E b _ z2;rw[e]at Q;cases Q;exact e2
 cases J:K.lookup a with
 |some o =>
  -- the script is one of the module's own objects
  have e:=U a o J;rw[t]at e;cases e;refine l (λ_=>none) (λ_=>.inl rfl) (.inr ⟨_,vs.toArray,_,J,rfl,rfl,rfl,by rw[Qat,G];exact T,by simpa using R⟩) (λb u z=>by have p:(none:Aa HO)=some u:=z;cases p) (λb z=>absurd rfl z) λz=>absurd rfl z
 |none =>
  refine l (λb=>if b=a then some (.frz { cls:=.type "list",data:=.seq vs.toArray } (.lst (ns.map V.int))) else none) (λb=>?_) (.inl (.inr ⟨{ cls:=.type "list",data:=.seq vs.toArray },if_pos rfl⟩)) (λb u z=>?_) (λb z=>?_) λ_=>J
  .by_cases f:b=a
   .exact .inr ⟨_,_,if_pos f⟩
   .exact .inl (if_neg f)
  .by_cases f:b=a
   .have p:=(if_pos f).symm.trans z;cases p;subst f;exact⟨t,by rw[Qad];exact T,vs,_,R,t⟩
   .have p:=(if_neg f).symm.trans z;cases p
  .by_cases f:b=a
   .exact f
   .exact absurd (if_neg f) z
def Z0n(s:Stmt)(j:Nat):Stmt:=match s with
 | .ClassDef _ _ _ body _ _ _ _ _ _ _=>body.getD j (.Pass ⟨0,0,0,0⟩)
 |_=>.Pass ⟨0,0,0,0⟩
def eV(s:Stmt):Arguments:=match s with
 | .FunctionDef _ a _ _ _ _ _ _ _ _=>a
 |_=>{ posonlyargs:=[],args:=[],vararg:=none,kwonlyargs:=[],kw_defaults:=[],kwarg:=none,defaults:=[] }
def cN(s:Stmt):Ab Stmt:=match s with
 | .FunctionDef _ _ b _ _ _ _ _ _ _=>b
 |_=>[]
def aS(s:Stmt):Scope:=match s with
 | .FunctionDef _ _ _ _ _ _ sc _ _ _=>sc
 |_=>{ kind:=.function,names:=[],isGenerator:=false,isCoroutine:=false }
abbrev CX0:CXT:=λ_ _ _ _ _ _=>False
abbrev E0:XK:=λ_ _ _=>False
def Z1y:pV CX0 X E0:=λ_ _ _ _ _ _ _ h=>h.elim
def K9(a:Room k A):A.units+1<cLine:=Nat.lt_of_le_of_lt (Nat.add_le_add_left (by decide:1<=64) _) a.units
def gD(h:n<=1000):n<sizeLine:=Nat.lt_of_le_of_lt h (by decide)
section
variable {X:Cx}
def pv(i:Nat){x:Str}{ai:Pos}(b:X.N[i]?=some x:=by rfl)(f:Vis X.env.scope x:=by first|exact Or.inl rfl|exact Or.inr (Or.inl rfl)|exact Or.inr (Or.inr rfl))(hd:nDb x:=by decide)
  (a:(x==("__classdict__" : Str))=false:=by decide):PE X (.Name x ai) (X1 i):=mL b f hd a
end
def zX{A B:Prop}(h:B):if false=true then A else B:=by
 rw[if_neg Qbn];exact h
def yC{A B:Prop}(h:A):if true=true then A else B:=by
 rw[if_pos rfl];exact h
def Same(H H':Hp):Prop:=∀b o,H b=some o->H' b=some o
def Same.refl(H:Hp):Same H H:=λ_ _ h=>h
def Same.trans(a:Same H H1)(b:Same H1 H2):Same H H2:=λc o h=>b c o (a c o h)
def Same.free(e:Same H H'){l:Af}(h:H' l=Option.none):H l=Option.none:=by
 cases q:H l with
 |none=>rfl
 |some o =>
  rw[e l o q]at h;cases h
section
variable {κ:Type}[DecidableEq κ]
def C5(kvs:Ab (κ×V))(k:κ):Aa V:=(kvs.find? λkv=>decide (kv.1=k)).map (·.2)
def tL(kvs:Ab (κ×V))(k:κ)(v:V):Ab (κ×V) :=
 if (kvs.any λkv=>decide (kv.1=k))=true then kvs.map (λkv=>if kv.1=k then(kv.1,v) else kv) else kvs++[(k,v)]
def Z12{p:κ×V}{r:Ab (κ×V)}{k:κ}(e:p.1=k):C5 (p::r) k=some p.2:=by simp[C5,QaR,e]
def Z13{p:κ×V}{r:Ab (κ×V)}{k:κ}(e:¬p.1=k):C5 (p::r) k=C5 r k:=by simp[C5,QaR,e]
def yY(kvs:Ab (κ×V))(k:κ)(v:V):(tL kvs k v).length<=kvs.length+1:=by
 unfold tL;split
 .rw[Qad];omega
 .rw[Qaj,Qai,QaZ];omega
def RelO.isSome_eq{o:Aa V}{u:Aa Ad}(r:RelO o u):o.isSome=u.isSome:=by
 cases o with
 |none=>cases u with
  |none=>rfl
  |some _=>exact(show False from r).elim
 |some _=>cases u with
  |none=>exact(show False from r).elim
  |some _=>rfl
def KV.val{kvs:Ab (κ×V)}{vs:Ab (κ×Ad)}(r:KV kvs vs)(k:κ):RelO (C5 kvs k) (valueAt vs k):=by
 unfold KV at r
 induction r with
 |nil=>exact True.intro
 | @cons p q ps qs h t ih =>
  obtain⟨h1,h2⟩:=h;by_cases e:p.1=k
  .have a:q.1=k:=h1.symm.trans e;have b:valueAt (q::qs) k=some q.2:=by simp[valueAt,QaR,a]
   rw[Z12 e,b];exact h2
  .have a:¬q.1=k:=λz=>e (h1.trans z);have b:valueAt (q::qs) k=valueAt qs k:=by simp[valueAt,QaR,a]
   rw[Z13 e,b];exact ih
theorem KV.any{kvs:Ab (κ×V)}{vs:Ab (κ×Ad)}(r:KV kvs vs)(k:κ):(kvs.any λa=>decide (a.1=k))=vs.any λa=>decide (a.1=k):=by
 unfold KV at r
 induction r with
 |nil=>rfl
 |cons h t ih=>rw[List.any_cons,List.any_cons,ih,h.1]
def KV.repl{kvs:Ab (κ×V)}{vs:Ab (κ×Ad)}(r:KV kvs vs)(k:κ){y:V}{u:Ad}(b:RelV y u) :
  KV (kvs.map λa=>if a.1=k then(a.1,y) else a) (vs.map λa=>if a.1=k then(a.1,u) else a):=by
 unfold KV at r ⊢
 induction r with
 |nil=>exact .nil
 | @cons p q ps qs h t ih =>
  rw[Qan,Qan];refine .cons ?_ ih;obtain⟨h1,h2⟩:=h;by_cases e:p.1=k
  .rw[if_pos e,if_pos (h1.symm.trans e)];exact⟨h1,b⟩
  .rw[if_neg e,if_neg (λz=>e (h1.trans z))];exact⟨h1,h2⟩
def KV.put{kvs:Ab (κ×V)}{vs:Ab (κ×Ad)}(r:KV kvs vs)(k:κ){y:V}{u:Ad}(a:RelV y u):KV (tL kvs k y) (stored vs k u):=by
 unfold tL stored;rw[r.any k];by_cases e:(vs.any λb=>decide (b.1=k))=true
 .rw[if_pos e,if_pos e];exact r.repl k a
 .rw[if_neg e,if_neg e];exact Paired.snoc r ⟨rfl,a⟩
def KV.keys{kvs:Ab (κ×V)}{vs:Ab (κ×Ad)}(r:KV kvs vs):kvs.map (·.1)=vs.map (·.1):=by
 unfold KV at r
 induction r with
 |nil=>rfl
 |cons h t ih=>rw[Qan,Qan,ih,h.1]
theorem KV.length{kvs:Ab (κ×V)}{vs:Ab (κ×Ad)}(r:KV kvs vs):kvs.length=vs.length:=Paired.length r
end
def T5{P:Aj}{w:Ak}{k:Key}{u:Ad}(r:RelV (kV k) u):(fE P w).is k u=true:=by
 cases k with
 |inl i=>obtain⟨t,e⟩:=(show ∃t,u=Value.int i t from r);subst e;exact Z1G P w i t
 |inr x=>obtain⟨t,e⟩:=(show ∃t,u=Value.str x t from r);subst e;exact Z1F P w x t
theorem T6{P:Aj}{w:Ak}:∀{ks:Ab Key}{us:Ab Ad},Vals (ks.map kV) us->ItemsAre (fE P w) ks us
 |[],_,r=>by rw[Qa5]at r;cases r;exact .nil
 |k::ks,_,r=>by
  rw[Qan]at r;cases r with
  |cons h t=>exact .cons (T5 h) (T6 t)
section
variable {P:Aj}{w:Ak}{H:Hp}{h:Ah}{a:Af}
def ZcT{u:HO}(ok:HOk P w H h)(e:Rd H a u):ObjOk P w H h a u:=e.ok ok
def Z25{kvs:Ab (Key×V)}(ok:HOk P w H h)(e:Rd H a (.dK kvs)):kvs.length<=sizeLine/\(a==sysModules)=false/\∃vs,KV kvs vs/\h.DictOf (fE P w) a vs :=
 show ObjOk P w H h a (.dK kvs) from ZcT ok e
def Z8c{kvs:Ab (Key×V)}(ok:HOk P w H h)(e:H a=some (.dK kvs)):kvs.length<=sizeLine/\(a==sysModules)=false/\∃vs,KV kvs vs/\h.DictOf (fE P w) a vs:=Z25 ok (.inl e)
end
def DGet(H:Hp)(a:Af)(y:V)(r:Aa V):Prop :=
 ∃kvs k,Rd H a (.dK kvs)/\y=kV k/\r=C5 kvs k
def DPut(H:Hp)(a:Af)(y v:V)(H':Hp):Prop :=
 ∃kvs k,H a=some (.dK kvs)/\y=kV k/\kvs.length<sizeLine/\H'=upd H a (.dK (tL kvs k v))
theorem DGet.k{H:Hp}{a:Af}{kvs:Ab (Key×V)}{k:Key}(e:H a=some (.dK kvs)):DGet H a (kV k) (C5 kvs k):=⟨kvs,k,.inl e,rfl,rfl⟩
theorem DPut.k{H:Hp}{a:Af}{kvs:Ab (Key×V)}{k:Key}{v:V}(e:H a=some (.dK kvs))(b:kvs.length<sizeLine):DPut H a (kV k) v (upd H a (.dK (tL kvs k v))):=⟨kvs,k,e,rfl,b,rfl⟩
section
variable {X:Cx}{aa:Ab (Af×Obj)}{σ:St}{H:Hp}{s:Ac}{a:Af}{y v:V}{u r:Ad}{o:Aa V}{A:Ai}{E:Ad->Ac->Prop}
def Inv.big(I:Inv X aa σ H s):sysModules<s.heap.objs.size:=by
 have h:mainGlobals<s.heap.objs.size:=(I.mod.glob.keeps I.bk).lt;exact Nat.lt_trans (by decide) h
def Z60{Q:Ad->Ac->Prop}(n:A.units+1<cLine)(I:Inv X aa σ H s)(g:DGet H a y (some v))(j:RelV y u)(h:∀w' s',Inv X aa σ H s'->RelV v w'->Q w' s') :
  wpAny (model X.prog X.w) A (getItem (.ref a) u) Q E s:=by
 obtain⟨kvs,k,e,i,l⟩:=g;subst i;obtain⟨z,hd,vs,f,dd⟩:=Z25 I.hok e;obtain⟨w',hw,b⟩:=RelO.some_of (v:=v) (o:=valueAt vs k) (by rw[l];exact f.val k);exact wpAny_getItem_of (T5 j) dd.mapOf hw (h w' _ (I.tok _) b)
def Zeg{Q:Ad->Ac->Prop}(j:A.units+1<cLine)(I:Inv X aa σ H s)(g:DGet H a y o)(i:RelV y u)(h:∀s',Inv X aa σ H s'->Q (.bool o.isSome) s') :
  wpAny (model X.prog X.w) A (compareOp .In u (.ref a)) Q E s:=by
 obtain⟨kvs,k,e,f,l⟩:=g;subst f;obtain⟨z,hd,vs,b,dd⟩:=Z25 I.hok e;refine wpAny_in_of (T5 i) hd dd.mapOf ?_;rw[<- (b.val k).isSome_eq,<- l];exact h _ (I.tok _)
def Zal{Q:Ad->Ac->Prop}(j:A.units+1<cLine)(I:Inv X aa σ H s)(g:DGet H a y o)(i:RelV y u)(h:∀s',Inv X aa σ H s'->Q (.bool (!o.isSome)) s') :
  wpAny (model X.prog X.w) A (compareOp .NotIn u (.ref a)) Q E s:=by
 obtain⟨kvs,k,e,f,l⟩:=g;subst f;obtain⟨z,hd,vs,b,dd⟩:=Z25 I.hok e;refine wpAny_notIn_of (T5 i) hd dd.mapOf ?_;rw[<- (b.val k).isSome_eq,<- l];exact h _ (I.tok _)
def Z4F{h':Ah}{t':Nat}{f:HO}(I:Inv X aa σ H s)(i:Mut (H a))(hs:Heap.SameBut a s.heap h')(he:∃q,h'.get? a=some q)(h:ObjOk X.prog X.w (upd H a f) h' a f) :
  Inv X aa σ (upd H a f) { s with heap:=h',toks:=t' } :=
 I.write (x:=a) (e:=a) i (.inl rfl) (λb q hb z=>(hs.2 b hb).trans z) he h
def Z8d{P:Aj}{w:Ak}{H':Hp}{h':Ah}{kvs:Ab (Key×V)}{vs:Ab (Key×Ad)}(z:kvs.length<=sizeLine)(hd:(a==sysModules)=false)(b:KV kvs vs)(dd:h'.DictOf (fE P w) a vs) :
  ObjOk P w H' h' a (.dK kvs):=⟨z,hd,vs,b,dd⟩
def Z5Z{H':Hp}{Q:Unit->Ac->Prop}(t:A.units+1<cLine)(I:Inv X aa σ H s)(g:DPut H a y v H')(o:RelV y u)(i:RelV v r)(h:∀s',Inv X aa σ H' s'->Q () s') :
  wpAny (model X.prog X.w) A (setItem (.ref a) u r) Q E s:=by
 obtain⟨kvs,k,e,f,l,j⟩:=g;subst f j;obtain⟨z,hd,vs,b,dd⟩:=Z8c I.hok e;have p:vs.length<=sizeLine:=by rw[<- b.length];exact z
 have n:(tL kvs k v).length<=sizeLine:=by have:=yY kvs k v;omega
 refine wpAny_setItem_pairs (hsz:=p) (T5 o) dd λh' dd' hs=>h _ ?_;have he:∃q,h'.get? a=some q:=let ⟨q,_,_,hq,_⟩:=dd';⟨q,hq⟩;exact Z4F I (by rw[e];exact True.intro) hs he (Z8d n hd (b.put k i) dd')
end
def Zco(i:Ag):Prop:=∀ov iv,subscripted i false ov iv=operate [ov,iv] (getItem ov iv)
def Z8J{prog:Aj}{w:Ak}{A:Ai}{E:Ad->Ac->Prop}{s:Ac}{ac:Env}{value a:Ag}{ai:Pos}{T id:String}{Q:Ad->Ac->Prop}
  (l:typeLookup (.type T) "__getitem__" = pure (some (.builtin id))) (hs:Zco a)
  (h:wpAny (model prog w) A (eval value ac) (λo s₁=>wpAny (model prog w) A (eval a ac) (λi s₂=>s₂.TypeIs o T/\wpAny (model prog w) A (getItem o i) Q E s₂) E s₁) E s) :
  wpAny (model prog w) A (eval (.Subscript value a ai) ac) Q E s:=by
 refine Subscript_ (Rc h (λo s₁ h₁=>Rc h₁ (λi s₂ b=>?_) λ_ _ x=>x) λ_ _ x=>x);obtain⟨j,b⟩:=b;unfold subscriptTail;refine Ra ?_;rw[getitemInPython_of_ne j.not_modules];refine Ra (wpAny_specialOf j l ?_);have f:wpAny (model prog w) A (subscripted a false o i) (λr s₃=>wpAny (model prog w) A (letTemporaryGo value o r >>= λ_=>pure r) Q E s₃) E s₂:=by
  rw[hs o i];exact wpAny_operating (Rc b (λr s₃ h₃=>Ra (wpAny_letTemporaryGo (Rb h₃))) λ_ _ x=>x)
 first
  |exact Rb (Ra f)
  |exact Ra (Rb (Ra f))
  |exact Ra f
def Z28{X:Cx}{aa:Ab (Af×Obj)}{σ:St}{H:Hp}{s:Ac}{a:Af}{y:V}{o:Aa V}(I:Inv X aa σ H s)(g:DGet H a y o):s.TypeIs (.ref a) "dict":=by
 obtain⟨kvs,k,e,_,_⟩:=g;obtain⟨_,_,vs,_,dd⟩:=Z25 I.hok e;exact dd.typeIs
def ZcK(td ty:TE):TE:=λσ H Q=>td σ H λx H1=>ty σ H1 λy H2=>∃a v,x=.ref a/\DGet H2 a y (some v)/\Q v H2
def ZdV(ty td:TE):TE:=λσ H Q=>ty σ H λy H1=>td σ H1 λx H2=>∃a o,x=.ref a/\DGet H2 a y o/\Q (.bl o.isSome) H2
def Z8H(ty td:TE):TE:=λσ H Q=>ty σ H λy H1=>td σ H1 λx H2=>∃a o,x=.ref a/\DGet H2 a y o/\Q (.bl (!o.isSome)) H2
def ZcR(td ty tv:TE):TS:=λD σ H=>tv σ H λv H1=>td σ H1 λx H2=>ty σ H2 λy H3=>∃a H4,x=.ref a/\DPut H3 a y v H4/\D.nx σ H4
section
variable {X:Cx}{o i value:Ag}{ai pos':Pos}{td ty tv:TE}
def pe_dget(f:X.A.units+1<cLine)(b:PE X o td)(hi:PE X i ty)(hs:Zco i):PE X (.Subscript o i ai) (ZcK td ty):=by
 intro aa s σ H Q I h;refine Z8J PySem.F.slot_dict_getitem.lookup hs (thn (b aa s σ H _ I h) λu s1 ⟨x,H1,I1,rx,q1⟩=>thn (hi aa s1 σ H1 _ I1 q1) λiv s2 ⟨y,H2,I2,ry,a,v,ex,g,q2⟩=>?_);subst ex;obtain rfl:u=Value.ref a:=rx;exact⟨Z28 I2 g,Z60 f I2 g ry λw' s3 I3 rw'=>⟨v,H2,I3,rw',q2⟩⟩
def ZbU(f:X.A.units+1<cLine)(hi:PE X i ty)(b:PE X o td):PC X .In i o (ZdV ty td):=by
 intro aa s σ H Q I h;refine thn (hi aa s σ H _ I h) λiv s1 ⟨y,H1,I1,ry,q1⟩=>thn (b aa s1 σ H1 _ I1 q1) λu s2 ⟨x,H2,I2,rx,a,ov,ex,g,q2⟩=>?_;subst ex;obtain rfl:u=Value.ref a:=rx;exact Zeg f I2 g ry λs3 I3=>⟨.bl ov.isSome,H2,I3,rfl,q2⟩
def Z5t(f:X.A.units+1<cLine)(hi:PE X i ty)(b:PE X o td):PC X .NotIn i o (Z8H ty td):=by
 intro aa s σ H Q I h;refine thn (hi aa s σ H _ I h) λiv s1 ⟨y,H1,I1,ry,q1⟩=>thn (b aa s1 σ H1 _ I1 q1) λu s2 ⟨x,H2,I2,rx,a,ov,ex,g,q2⟩=>?_;subst ex;obtain rfl:u=Value.ref a:=rx;exact Zal f I2 g ry λs3 I3=>⟨.bl (!ov.isSome),H2,I3,rfl,q2⟩
def Z9v(f:X.A.units+1<cLine)(b:PE X o td)(hi:PE X i ty)(j:PE X value tv)(hs:swapsWith value (some (.Subscript o i pos')) ai.line X.env=pure false) :
  PS X (.Assign [.Subscript o i pos'] value ai) (ZcR td ty tv):=by
 intro aa s σ H D I h;refine wpAny_Assign_Subscript (thn (j aa s σ H _ I h) λr s1 ⟨v,H1,I1,rv,q1⟩=>thn (b aa s1 σ H1 _ I1 q1) λu s2 ⟨x,H2,I2,rx,q2⟩=>thn (hi aa s2 σ H2 _ I2 q2) λiv s3 ⟨y,H3,I3,ry,a,H4,ex,g,q3⟩=>?_) hs;subst ex;obtain rfl:u=Value.ref a:=rx;exact Z5Z f I3 g ry rv λs4 I4=>⟨σ,H4,I4,q3⟩
end
def Z26{P:Aj}{w:Ak}{H:Hp}(h:Ah)(a:sysModules<h.objs.size):ObjOk P w H (h.push { cls:=.type "dict",data:=.dict #[] }) h.objs.size (.dK []) :=
 ⟨QaY _,beq_eq_false_iff_ne.mpr (Ne.symm (QaA a)),[],.nil,Heap.DictOf.new h⟩
def Zbd:TE:=λ_ H Q=>∀p,H p=none->Q (.ref p) (upd H p (.dK []))
section
variable {X:Cx}{ai:Pos}
def pe_dnewK:PE X (.Dict [] [] ai) Zbd:=λaa s σ H Q I h =>
 wpAny_Dict_empty ⟨.ref s.heap.objs.size,_,I.laid (a:=s.heap.objs.size) (o:=.dK []) (t':=s.toks) (λ_ _ q=>Qac _ q) (Qap _) (Z26 s.heap I.big),rfl,h _ (I.hok.fresh (Qap _))⟩
end
def X2:Ab (TE×TE)->St->Hp->(Ab (V×V)->Hp->Prop)->Prop
 |[],_,H,Q=>Q [] H
 |(tk,tv)::r,σ,H,Q=>tk σ H λx H1=>tv σ H1 λy H2=>X2 r σ H2 λps H3=>Q ((x,y)::ps) H3
abbrev VV:Ab (V×V)->Ab (Ad×Ad)->Prop:=Paired λp q=>RelV p.1 q.1/\RelV p.2 q.2
def PPs(X:Cx)(ai:Pos)(keys:Ab (Aa Ag))(values:Ab Ag)(trs:Ab (TE×TE)):Prop :=
 ∀(aa:Ab (Af×Obj)) (s:Ac) (σ:St) (H:Hp) (Q:Ab (V×V)->Hp->Prop),Inv X aa σ H s->X2 trs σ H Q ->
  wpAny (model X.prog X.w) X.A (evalPairs (pairTrees keys values X.env ai)) (λvs s'=>∃ps H',Inv X aa σ H' s'/\VV ps vs/\Q ps H') X.xe s
def Z9w{X:Cx}{ai:Pos}:PPs X ai [] [] []:=λaa s σ H Q I h=>pairTrees_nil_walk ⟨[],H,I,.nil,h⟩
def Z7h{X:Cx}{ai:Pos}{k v:Ag}{ks:Ab (Aa Ag)}{vs:Ab Ag}{tk tv:TE}{a:Ab (TE×TE)}(f:PE X k tk)(b:PE X v tv)(i:PPs X ai ks vs a) :
  PPs X ai (some k::ks) (v::vs) ((tk,tv)::a):=λaa s σ H Q I h =>
 pairTrees_cons_walk (thn (f aa s σ H _ I h) λu s1 ⟨x,H1,I1,rx,q1⟩=>thn (b aa s1 σ H1 _ I1 q1) λw2 s2 ⟨y,H2,I2,ry,q2⟩ =>
  thn (i aa s2 σ H2 _ I2 q2) λws s3 ⟨ps,H3,I3,rel,q3⟩=>⟨(x,y)::ps,H3,I3,.cons ⟨rx,ry⟩ rel,q3⟩)
def uR(kvs more:Ab (Key×V)):Ab (Key×V):=more.foldl (λaj kv=>tL aj kv.1 kv.2) kvs
def KV.merge:∀{more:Ab (Key×V)}{rs:Ab (Key×Ad)}{kvs:Ab (Key×V)}{vs:Ab (Key×Ad)},KV more rs->KV kvs vs->KV (uR kvs more) (merged vs rs):=by
 intro more rs kvs vs r;unfold KV at r
 induction r generalizing kvs vs with
 |nil=>intro q;exact q
 | @cons p q ps qs h t ih =>
  intro a;have e:KV (tL kvs p.1 p.2) (stored vs q.1 q.2):=by
   have:=a.put p.1 h.2;rw[<- h.1];exact this
  exact ih e
theorem tY:∀(more kvs:Ab (Key×V)),(uR kvs more).length<=kvs.length+more.length
 |[],kvs=>by show kvs.length<=kvs.length+0;omega
 |p::r,kvs=>by
  have h1:=tY r (tL kvs p.1 p.2);have h2:=yY kvs p.1 p.2;show(uR (tL kvs p.1 p.2) r).length<=_;rw[Qai];omega
theorem M7{P:Aj}{w:Ak}:∀{kvs:Ab (Key×V)}{ws:Ab (Ad×Ad)},VV (kvs.map λf=>(kV f.1,f.2)) ws->∃rs,Carries (fE P w) ws rs/\KV kvs rs
 |[],_,r=>by rw[Qa5]at r;cases r;exact⟨[],True.intro,.nil⟩
 |p::kvs,_,r=>by
  rw[Qan]at r;cases r with
  | @cons a b as bs h t =>
   obtain⟨rs,c,q⟩:=M7 (P:=P) (w:=w) t;obtain⟨j,i⟩:=b;exact⟨(p.1,i)::rs,⟨T5 h.1,rfl,c⟩,.cons ⟨rfl,h.2⟩ q⟩
def ZcI(trs:Ab (TE×TE)):TE:=λσ H Q=>∀p,H p=none->X2 trs σ (upd H p (.dK [])) λps H2=>H2 p=some (.dK [])/\∃kvs:Ab (Key×V),ps=kvs.map (λkv=>(kV kv.1,kv.2))/\kvs.length<=15/\Q (.ref p) (upd H2 p (.dK (uR [] kvs)))
def Z9E{X:Cx}{ai:Pos}{keys:Ab (Aa Ag)}{values:Ab Ag}{b:Ab (TE×TE)}(h:PPs X ai keys values b)(f:keys.all (·.isSome)=true)(t:keys.length=values.length)(p:keys≠[])
  (i:keys.length<=15):PE X (.Dict keys values ai) (ZcI b):=by
 intro aa s σ H Q I q;have l:=I.hok.fresh (Qap s.heap.objs.size);have n:=I.laid (a:=s.heap.objs.size) (o:=.dK []) (h':=s.heap.push { cls:=.type "dict",data:=.dict #[] }) (t':=s.toks) (λ_ _ q=>Qac _ q) (Qap _) (Z26 s.heap I.big);refine wpAny_Dict_walk (knd:=fE X.prog X.w) f t p i (thn (h aa _ σ _ _ n (q _ l)) λws s2 ⟨ps,H2,I2,rel,e,kvs,ep,lk,q2⟩=>?_);subst ep;obtain⟨rs,c,j⟩:=M7 (P:=X.prog) (w:=X.w) rel;obtain⟨z,hd,v,r,dd⟩:=Z8c I2.hok e;cases r;refine⟨rs,c,dd,λh' dd' hs=>⟨.ref s.heap.objs.size,_,?_,rfl,q2⟩⟩;have u:(uR [] kvs).length<=sizeLine:=by
  have h1:=tY kvs [];rw[QaZ]at h1;rw[sizeLine_eq];omega
 have he:∃q,h'.get? s.heap.objs.size=some q:=let ⟨q,_,_,hq,_⟩:=dd';⟨q,hq⟩;exact Z4F I2 (by rw[e];exact True.intro) hs he (Z8d u hd (j.merge .nil) dd')
def Z0I(I:Nat->Ac->Prop)
  (f:∀ n s,I n s->wpAny (model prog w) A (pyNext it) (fun r s₁=>match r with
   |none=>R (.ok .next) s₁
   | some v=>wpAny (model prog w) A (letOwnedTupleGo target it v) (fun _ s₀=>wpAny (model prog w) A (assign target ac v) (fun _ s₂ =>
     wpAny (model prog w) A (forIn ifs true λc r=>if r=true then do let ok <- isTrue c ac (eval c ac);pure (ForInStep.yield ok) else pure (ForInStep.yield r)) (λok a =>
      if ok=true then wpAny (model prog w) A (eval elt ac) (λx b =>
       wpAny (model prog w) A (call (.builtin "list.append") [aj,x]) (λ_ s₅=>∃m,m<n/\I m s₅) (notedBy (model prog w) A ac λe s'=>R (.error e) s') b) (notedBy (model prog w) A ac λe s'=>R (.error e) s') a
      else ∃m,m<n/\I m a) (notedBy (model prog w) A ac λe s'=>R (.error e) s') s₂) (notedBy (model prog w) A ac λe s'=>R (.error e) s') s₀)
     (notedBy (model prog w) A ac λe s'=>R (.error e) s') s₁) (notedBy (model prog w) A ac λe s'=>R (.error e) s') s)
  (n:Nat) (h:I n s) :
  codeAny (model prog w) A (.compLoop (.ListComp elt [⟨target,iter,ifs,0⟩] ag ai) 0 it aj ac) R s:=by
 refine codeAny_loop rfl I (λn s hI=>?_) n h;show wpAny _ A ((compTurn (.ListComp elt [⟨target,iter,ifs,0⟩] ag ai) 0 it aj ac).onRaise (λx=>do noteFrame x ac;theTreesLotGoes x)) _ _ s
 refine wpAny_noted ?_;rw[compTurn_list];refine Ra (wpAny_standAt (Ra (Rc (f n s hI) (λr s₁ h₁=>?_) λ_ _ h'=>h')));cases r with
 |none=>exact Rb h₁
 |some v =>
  refine Ra (Rc h₁ (λ_ s₀ h₀=>?_) λ_ _ h'=>h');refine Ra (Rc h₀ (λ_ s₂ h₂=>Ra (Rc h₂ (λok a h₃=>?_) λ_ _ h'=>h')) λ_ _ h'=>h');cases ok with
  |false=>exact Rb ⟨rfl,h₃⟩
  |true =>
   exact Ra (Ra (Rc h₃ (λx b h₄=>Ra (Rc h₄ (λ_ s₅ h₅=>Rb (Rb ⟨rfl,h₅⟩)) λ_ _ h'=>h')) λ_ _ h'=>h'))
theorem vF:∀(names:Ab (Str×NameKind)) (aj:Ab (Str×Af)),(∀n,(n,NameKind.free)∈names->∃c,ac.cells.lookup n=some c) ->
  (∀n c,aj.lookup n=some c->ac.cells.lookup n=some c) ->
  ∃cl,(forIn names aj λ(x:Str×NameKind) cs=>(if (x.2==NameKind.free)=true then(cellOf ac x.1 >>= λa=>pure (ForInStep.yield ((x.1,a)::cs))) else pure (ForInStep.yield cs):Sem (ForInStep (Ab (Str×Af)))))=pure cl /\
   (∀n c,cl.lookup n=some c->ac.cells.lookup n=some c)/\(∀n,(n,NameKind.free)∈names->∃c,cl.lookup n=some c)/\(∀n c,aj.lookup n=some c->∃c',cl.lookup n=some c')
 |[],aj,_,h2=>⟨aj,rfl,h2,λn h=>(nomatch h),λn c h=>⟨c,h⟩⟩
 |(n,k)::r,aj,h1,h2=>by
  by_cases j:k=.free
  .subst j;obtain⟨c,hc⟩:=h1 n Qag;have o:∀m c',((n,c)::aj).lookup m=some c'->ac.cells.lookup m=some c':=by
    intro m c' e;rw[QaB]at e;cases q:m==n with
    |true =>
     rw[q]at e;have:=eq_of_beq q;subst this;cases e;exact hc
    |false =>
     rw[q]at e;exact h2 m c' e
   obtain⟨cl,e,i,l,f⟩:=vF r ((n,c)::aj) (λm b=>h1 m (Qaa _ b)) o;refine⟨cl,?_,i,?_,?_⟩
   .rw[Qbf];have p:cellOf ac n=pure c:=by unfold cellOf;rw[hc]
    show((if (NameKind.free==NameKind.free)=true then _ else _) >>= _)=_;rw[if_pos (by rfl),p];exact e
   .intro m b;rcases Qab.mp b with z|z
    .cases z;exact f n c (by simp[QaB])
    .exact l m z
   .intro m c' b;cases q:m==n with
    |true=>exact f m c (by rw[QaB,q])
    |false=>exact f m c' (by rw[QaB,q];exact b)
  .obtain⟨cl,e,i,l,f⟩:=vF r aj (λm b=>h1 m (Qaa _ b)) h2;refine⟨cl,?_,i,?_,f⟩
   .rw[Qbf];have:(k==NameKind.free)=false:=by simpa using j
    show((if (k==NameKind.free)=true then _ else _) >>= _)=_;rw[this,if_neg (by decide)];exact e
   .intro m b;rcases Qab.mp b with z|z
    .cases z;exact absurd rfl j
    .exact l m z
def pP(h:∀n,(n,NameKind.free)∈ag.names->∃c,ac.cells.lookup n=some c) :
  ∃cl,closureFor ag ac=pure cl/\(∀n c,cl.lookup n=some c->ac.cells.lookup n=some c)/\(∀n,(n,NameKind.free)∈ag.names->∃c,cl.lookup n=some c):=by
 obtain⟨cl,e,a,b,_⟩:=vF (ac:=ac) ag.names [] h (λn c q=>(nomatch q));refine⟨cl,?_,a,b⟩;unfold closureFor
 first
  |(rw[show(forIn ag.names ([]:Ab (Str×Af)) _:Sem (Ab (Str×Af)))=pure cl from e];rfl)
  |(simp only[bind_pure];exact e)
  |exact e
def cxComp(X:Cx)(N':Ab Str)(ag:Scope)(cl:Ab (Str×Af))(C:Af)(s₀:Ac)(H₀:Hp)(ex:Ab Af)(aa:Ab (Af×Obj)):Cx :=
 { X with N:=N',s₀:=s₀,H₀:=H₀,env:=compEnvC ag cl C X.env,outer:=X.stack,stack:=X.stack,ex:=ex,fn:=λ_=>false,pn:=X.pn++aa,xe:=λ_ _=>False }
def dP(osc:Scope)(N:Ab Str)(ag:Scope)(fr:Ab Nat):Bool :=
 ag.kind == .function&&ag.names.all (λy=>y.2 != .cell)&&ag.names.all (λy=>y.2 != .free||(osc.names.lookup y.1==some .cell||osc.names.lookup y.1==some .free)) &&
 fr.all (λj=>match N[j]? with|some x=>ag.names.lookup x==some .free|none=>false)&&ag.names.all (λy=>y.2 != .local||ag.names.lookup y.1==some .local)
theorem lB{ac:Env}:∀{names:Ab (Str×NameKind)}{x:Str},names.lookup x=some .free ->
  (names.map λ(n,k)=>if (k==NameKind.free&&ac.scope.kind == .function&&ac.kindOf n==some .cell) then(n,NameKind.cell) else(n,k)).lookup x=some .cell \/
  (names.map λ(n,k)=>if (k==NameKind.free&&ac.scope.kind == .function&&ac.kindOf n==some .cell) then(n,NameKind.cell) else(n,k)).lookup x=some .free
 |[],_,h=>by simp at h
 |(n,k)::r,x,h=>by
  have b:=@lB ac r x;show List.lookup x ((if (k==NameKind.free&&ac.scope.kind == .function&&ac.kindOf n==some .cell)=true then(n,NameKind.cell) else(n,k))::_)=_\/List.lookup x ((if (k==NameKind.free&&ac.scope.kind == .function&&ac.kindOf n==some .cell)=true then(n,NameKind.cell) else(n,k))::_)=_;cases a:x==n with
  |true =>
   simp only[QaB,a]at h;cases h;by_cases hc:(NameKind.free==NameKind.free&&ac.scope.kind == .function&&ac.kindOf n==some .cell)=true
   .rw[if_pos hc];left;simp only[QaB,a]
   .rw[if_neg hc];right;simp only[QaB,a]
  |false =>
   simp only[QaB,a]at h;by_cases hc:(k==NameKind.free&&ac.scope.kind == .function&&ac.kindOf n==some .cell)=true
   .rw[if_pos hc];simp only[QaB,a];exact b h
   .rw[if_neg hc];simp only[QaB,a];exact b h
def yU{ac:Env}{names:Ab (Str×NameKind)}(hc:∀y∈names,y.2 ≠ .cell){x:Str}{k':NameKind}(b:k'=.cell\/k'=.free)
  (h:(names.map λ(n,k)=>if (k==NameKind.free&&ac.scope.kind == .function&&ac.kindOf n==some .cell) then(n,NameKind.cell) else(n,k)).lookup x=some k'):(x,NameKind.free)∈names:=by
 have h1:=PySem.mem_of_lookup h;obtain⟨⟨n,k⟩,a,e⟩:=Qa1.mp h1;by_cases q:(k==NameKind.free&&ac.scope.kind == .function&&ac.kindOf n==some .cell)=true
 .simp only[q]at e;simp at e;obtain⟨rfl,_⟩:=e;simp at q;obtain⟨⟨rfl,_⟩,_⟩:=q;exact a
 .simp only[q]at e;simp at e;obtain⟨rfl,rfl⟩:=e;rcases b with z|z
  .exact absurd z (hc _ a)
  .subst z;exact a
def kB(k:Nat)(fr:Ab Nat)(σ:St):St:=List.replicate k none++fr.map λj=>(σ[j]?).join
def cY(tgs:Ab Str)(fr:Ab Nat)(N:Ab Str):Ab Str:=tgs++fr.map λj=>(N[j]?).getD Str.empty
def Z7N{ag:Scope}{tgs:Ab Str}{fr:Ab Nat}{cl:Ab (Str×Af)}{h':Ah}{tk:Nat}{ex:Ab Af}(I:Inv X aa σ H s)
  (J:dP X.env.scope X.N ag fr=true)
  (h:∀n c,cl.lookup n=some c->X.env.cells.lookup n=some c) (l:∀n,(n,NameKind.free)∈ag.names->∃c,cl.lookup n=some c)
  (W:h'.Ns s.heap.objs.size (λ_=>none)) (f:∀b o,s.heap.get? b=some o->h'.get? b=some o)
  (t:∀b∈ex,xD X aa H b/\b<s.heap.objs.size) :
  Inv (cxComp X (cY tgs fr X.N) ag cl s.heap.objs.size s H ex aa) [] (kB tgs.length fr σ) H { s with heap:=h',toks:=tk }:=by
 simp only[dP,Qak,Qaz]at J;obtain⟨⟨⟨⟨c1,c2⟩,c3⟩,c4⟩,c5⟩:=J;have E:ag.kind=.function:=by simpa using c1
 have A:∀y∈ag.names,y.2 ≠ .cell:=λy hy=>by simpa using c2 y hy
 have lt:∀b o,s.heap.get? b=some o->b<s.heap.objs.size:=λb o e=>Qal e;have nofr:∀b∈frs X.stack,b∈X.env.locals::X.fs:=I.stkSub;refine⟨⟨I.ok.mod,E,I.ok.glob,I.ok.blt,Qap _,λx y c a b=>I.ok.inj x y c (h _ _ a) (h _ _ b),λx P=>?_,λx c C _=>?_,I.ok.hd,I.ok.frames,.inl rfl,λb hb=>⟨?_,λx c e=>(t b hb).1.2.2.2.2.1 x c (h _ _ e)⟩,
   I.bs,Qay I.ok.bsz I.sz,λb o e hb=>?_,λb hb C=>?_,I.stack,I.stkFree⟩,
  rfl,I.bare,Un.kept f,⟨λ_=>none,W,λi x v h1 h2 h3=>?_⟩,λx c e=>?_,I.fresh,λx c e=>I.freeC x c (h _ _ e),λp hp=>?_,I.hok.kept f,?_⟩
 .-- has
  have P:(relabel ag X.env).names.lookup x=some .cell\/(relabel ag X.env).names.lookup x=some .free:=P;rcases P with z|z
  .exact l x (yU A (.inl rfl) z)
  .exact l x (yU A (.inr rfl) z)
 .cases C
 .show b≠s.heap.objs.size;exact QaA (t b hb).2
 .-- noex
  obtain⟨⟨_,_,_,h4,_⟩,_⟩:=t b hb;rcases h4 with z|z
  .exact I.ok.noex b o e z
  .exact absurd (Qal (I.ok.bs b o e).1) (Nat.not_lt.mpr z)
 .-- exfs
  obtain⟨⟨_,h2,h3,_⟩,_⟩:=t b hb;rcases Qab.mp (nofr b C)with z|z
  .exact h2 z
  .exact h3 z
 .-- loc
  have h1:(cY tgs fr X.N)[i]?=some x:=h1;by_cases hi:i<tgs.length
  .unfold kB at h2;rw[QaI (by simpa using hi),Qbi,if_pos hi]at h2;cases h2
  .unfold kB at h2;rw[Qa3 (by simpa using hi),List.length_replicate,Qax]at h2;unfold cY at h1;rw[Qa3 (by simpa using hi),Qax]at h1;cases R:fr[i-tgs.length]? with
   |none=>rw[R]at h2;cases h2
   |some j =>
    rw[R]at h1 h2;have F:=c4 j (QaE R);cases G:X.N[j]? with
    |none=>rw[G]at F;cases F
    |some y =>
     rw[G]at F;simp only[QaK,G,Option.getD_some]at h1;cases(h1);have O:ag.names.lookup x=some .free:=by simpa using F
     have S:σ[j]?=some (some v):=by
      simp only[QaK]at h2;cases K:σ[j]? with
      |none=>rw[K]at h2;cases h2
      |some o=>rw[K]at h2;simp only[Option.join_some]at h2;injection h2 with h2;rw[h2]
     have L:X.env.scope.names.lookup x=some .cell\/X.env.scope.names.lookup x=some .free:=by
      have:=c3 _ (PySem.mem_of_lookup O);simpa using this
     obtain⟨m,_,Q⟩:=I.loc;obtain⟨u,r,q⟩:=Q j x v G S (L.elim (λz=>.inr (.inl z)) λz=>.inr (.inr z));refine⟨u,r,.inr ?_⟩;obtain⟨c,hc⟩:=l x (PySem.mem_of_lookup O);have Y:=lB (ac:=X.env) O;refine⟨Y,c,hc,?_⟩;rcases q with⟨k,_⟩|⟨_,c',e',z⟩
     .have k':X.env.scope.names.lookup x=some .local:=k;rcases L with w|w<;>(rw[k']at w;cases w)
     .have:c'=c:=by have:=h x c hc;rw[e']at this;exact QaF this
      subst this;obtain⟨M,B,hd⟩:=z;exact⟨M,f _ _ B,hd⟩
 .obtain⟨v,M,B,hd⟩:=I.cell x c (h _ _ e);exact⟨v,M,f _ _ B,hd⟩
 .have T:p∈X.pn++aa:=by
   have:p∈(X.pn++aa)++[]:=hp;simpa using this
  obtain⟨U,a2,Z,a4,a5⟩:=I.pin p T;refine⟨f _ _ U,a2,?_,λC=>?_,a5⟩
  .show p.1≠s.heap.objs.size;exact QaA (lt _ _ U)
  .rcases Qab.mp (nofr _ C)with z|z
   .exact Z z
   .exact a4 z
 .show(kB tgs.length fr σ).length=(cY tgs fr X.N).length;simp[kB,cY]
def PTs(X:Cx)(ifs:Ab Ag)(t:TT):Prop :=
 ∀(aa:Ab (Af×Obj)) (s:Ac) (σ:St) (H:Hp) (Q:Bool->Hp->Prop),Inv X aa σ H s->t σ H Q ->
  wpAny (model X.prog X.w) X.A (forIn ifs true λc r=>if r=true then do let ok <- isTrue c X.env (eval c X.env);pure (ForInStep.yield ok) else pure (ForInStep.yield r)) (TP X aa σ Q) X.xe s
def ZcC:TT:=λ_ H Q=>Q true H
def Z9t:PTs X [] ZcC:=λaa s σ H Q I h=>wpAny_tests_nil ⟨H,I,h⟩
def Z9s(h:PT X c t):PTs X [c] t:=λaa s σ H Q I q=>wpAny_tests_one (h aa s σ H Q I q)
def Z4L(J:It)(k:Nat)(fr:Ab Nat)(g:TG)(tt:TT)(te:TE)(σ:St)(H1:Hp)(Q:VK):Prop :=
 ∀aj,H1 aj=none->∃W:Nat->Nat->Ab V->Hp->Prop,(∃m,W 0 m [] (upd H1 aj (.lst [])))/\∀i m ys H,W i m ys H->H aj=some (.lst ys) /\
  ((J.stop i H /\ Q (.ref aj) H) \/ (J.go i H /\ ∀ x H', J.yld i H x H' -> g x (kB k fr σ) H' fun σ2 H2 => (σ2.drop k = (kB k fr σ).drop k /\ σ2.length = (kB k fr σ).length) /\ tt σ2 H2 fun b H3 => if b = true then te σ2 H3 fun y H4 => ∃ ys', H4 aj = some (.lst ys') /\ ys'.length < sizeLine /\
   ∃m',m'<m/\W (i+1) m' (ys'++[y]) (upd H4 aj (.lst (ys'++[y]))) else ∃m' ys',m'<m/\W (i+1) m' ys' H3))
def C7(wi:TI)(k:Nat)(fr:Ab Nat)(g:TG)(tt:TT)(te:TE):TE:=λσ H Q=>wi σ H λJ H1=>Z4L J k fr g tt te σ H1 Q
def Z5N(I:Inv (cxComp X N' ag cl C s₀ H₀ ex aa) pins' σ H s):Inv { cxComp X N' ag cl C s₀ H₀ ex aa with xe:=χ } pins' σ H s :=
 ⟨⟨I.ok.mod,I.ok.kind,I.ok.glob,I.ok.blt,I.ok.above,I.ok.inj,I.ok.has,I.ok.cab,I.ok.hd,I.ok.frames,I.ok.stk,I.ok.exf,I.ok.bs,I.ok.bsz,I.ok.noex,I.ok.exfs,I.ok.funs,I.ok.frf⟩,I.os,I.bare,I.base,I.loc,I.cell,I.free,I.freeC,I.pin,I.hok,I.len⟩
section
variable {X:Cx}{aa:Ab (Af×Obj)}{σ:St}{H:Hp}{s:Ac}{elt iter tg:Ag}{ifs:Ab Ag}{ag:Scope}{ai:Pos}{tgs:Ab Str}{fr:Ab Nat}{g:TG}{tt:TT}{te:TE}{J:It}{fp:Ab Af}{it:Af}{tn:Nat->Ah->Prop}
def V0{χ:Af->Ac->Hp->Ab Af->Ab (Af×Obj)->Ad->Ac->Prop}{cl:Ab (Str×Af)}{R:VK}{E:Ad->Ac->Prop}{RR:Ad->Af->Result->Ac->Prop}(I2:Inv X aa σ H s)(T:O1 X.prog X.w X.K tg J fp it tn)(a5:tn 0 s.heap)(f2:∀b∈fp,xD X aa H b)(hc:X.calm=true)
  (chk:dP X.env.scope X.N ag fr=true)
  (a0:∀n c,cl.lookup n=some c->X.env.cells.lookup n=some c) (hcl2:∀n,(n,NameKind.free)∈ag.names->∃c,cl.lookup n=some c)
  (hg:∀cl C s0 H0 ex aa,PG ({ cxComp X (cY tgs fr X.N) ag cl C s0 H0 ex aa with xe:=χ C s0 H0 ex aa }) tg g)
  (ht:∀cl C s0 H0 ex aa,PTs ({ cxComp X (cY tgs fr X.N) ag cl C s0 H0 ex aa with xe:=χ C s0 H0 ex aa }) ifs tt)
  (he:∀cl C s0 H0 ex aa,PE ({ cxComp X (cY tgs fr X.N) ag cl C s0 H0 ex aa with xe:=χ C s0 H0 ex aa }) elt te)
  (rd:Z4L J tgs.length fr g tt te σ H R)
  (fin:∀D C s' Hend m,Inv X aa σ Hend s'->s'.heap.Ns C m->Hend C=none->C≠X.env.locals->X.s₀.heap.objs.size<=C->(∀x c,X.env.cells.lookup x=some c->c≠C)->(∀p∈X.pn++aa,p.1≠C)->R (.ref D) Hend->RR (.ref D) C (.ok .next) s')
  (herr:∀aj C s3 H3,Inv X aa σ H3 s3->C=s3.heap.objs.size->(∀b∈fp,xD X aa H3 b)->∀e s',χ C s3 H3 fp aa e s'->notedBy (model X.prog X.w) X.A (compEnvC ag cl C X.env) (λx s'=>RR aj C (.error x) s') e s') :
  wpAny (model X.prog X.w) X.A (newList []) (λaj s₃=>wpAny (model X.prog X.w) X.A (newFunctionEnv ag X.env.globals cl [] X.env.qual none .none (some X.env)) (λa4 s₄ =>
   codeAny (model X.prog X.w) X.A (.compStart (.ListComp elt [⟨tg,iter,ifs,0⟩] ag ai) 0 (.ref it) aj { a4 with scope:=relabel ag X.env }) (RR aj a4.locals) s₄) E s₃) E s:=by
 have Y:=chk;simp only[dP,Qak,Qaz]at Y;obtain⟨⟨⟨⟨c1,c2⟩,c3⟩,c4⟩,c5⟩:=Y;have a6:ag.kind=.function:=by simpa using c1
 have hcell:∀y∈ag.names,y.2 ≠ .cell:=λy hy=>by simpa using c2 y hy
 refine Re (wpAny_newFunctionEnv hcell (by intro y hy;simp at hy) (λh₁ hns₁ hsb₁=>?_) a6);have t:Inv X aa σ (upd H s.heap.objs.size (.lst [])) { s with heap:=s.heap.push { cls:=.type "list",data:=.seq ([]:Ab Ad).toArray } }:=I2.lnew (t':=s.toks) (ak:=[]) .nil (QaY _);generalize hs3:({ s with heap:=s.heap.push { cls:=.type "list",data:=.seq ([]:Ab Ad).toArray } }:Ac)=s3 at t hns₁ hsb₁ ⊢;have O:s3.heap=s.heap.push { cls:=.type "list",data:=.seq ([]:Ab Ad).toArray }:=by rw[<- hs3]
 have L:∀b o,s.heap.get? b=some o->s3.heap.get? b=some o:=λb o e=>by rw[O];exact Qac _ e
 have P:s3.heap.objs.size=s.heap.objs.size+1:=by rw[O,Qbp]
 have a2:∀b∈fp,b<s.heap.objs.size:=λb f=>by
  obtain⟨o,e,_⟩:=T.obj 0 _ a5 b f;exact Qal e
 have upn:∀{b:Af},b<s.heap.objs.size->upd H s.heap.objs.size (.lst []) b=H b:=λf=>aY (QaA f);have f3:∀b∈fp,xD X aa (upd H s.heap.objs.size (.lst [])) b:=λb f=>⟨by rw[upn (a2 b f)];exact(f2 b f).1,(f2 b f).2⟩;have B:∀b o,s3.heap.get? b=some o->h₁.get? b=some o:=λb o e=>hsb₁.extBut b o (QaA (Qal e)) (Qac _ e);have I4:=Z5N (χ:=χ s3.heap.objs.size s3 (upd H s.heap.objs.size (.lst [])) fp aa) (Z7N (tgs:=tgs) (h':=h₁) (tk:=s3.toks+([]:Ab (Str×Ad)).length) (ex:=fp) t chk a0 hcl2 (by simpa using hns₁) B (λb f=>⟨f3 b f,by rw[P];exact Nat.lt_succ_of_lt (a2 b f)⟩));obtain⟨W,⟨m0,w0⟩,F⟩:=rd s.heap.objs.size I2.fresh;generalize hX':({ cxComp X (cY tgs fr X.N) ag cl s3.heap.objs.size s3 (upd H s.heap.objs.size (.lst [])) fp aa with xe:=χ s3.heap.objs.size s3 (upd H s.heap.objs.size (.lst [])) fp aa }:Cx)=X' at I4;have S:X'.A=X.A:=by rw[<- hX'];rfl
 have Q:X'.prog=X.prog:=by rw[<- hX'];rfl
 have U:X'.w=X.w:=by rw[<- hX'];rfl
 have eK:X'.K=X.K:=by rw[<- hX'];rfl
 have eC:X'.calm=true:=by rw[<- hX'];exact hc
 have eX:∀e s',X'.xe e s'->notedBy (model X.prog X.w) X.A (compEnvC ag cl s3.heap.objs.size X.env) (λx s'=>RR (.ref s.heap.objs.size) s3.heap.objs.size (.error x) s') e s':=by
  rw[<- hX'];exact herr _ _ _ _ t rfl f3
 have G:X'.env=compEnvC ag cl s3.heap.objs.size X.env:=by rw[<- hX'];rfl
 have hg':PG X' tg g:=by rw[<- hX'];exact hg _ _ _ _ _ _
 have ht':PTs X' ifs tt:=by rw[<- hX'];exact ht _ _ _ _ _ _
 have he':PE X' elt te:=by rw[<- hX'];exact he _ _ _ _ _ _
 have Z:∀{H':Hp},(∀b∈fp,H' b=none)->∀b∈fp,xD X' [] H' b:=λ{H'} hn b f=>by
  rw[<- hX'];obtain⟨_,z2,z3,z4,z5,z6⟩:=f3 b f;refine⟨hn b f,?_,λhf=>?_,.inl f,λx c e=>z5 x c (a0 _ _ e),λp hp=>z6 p (by have:p∈(X.pn++aa)++[]:=hp;simpa using this)⟩
  .show b≠s3.heap.objs.size;rw[P];exact QaA (Nat.lt_succ_of_lt (a2 b f))
  .rcases Qab.mp (t.stkSub b hf)with z|z
   .exact z2 z
   .exact z3 z
 have a3:codeAny (model X.prog X.w) X.A (.compLoop (.ListComp elt [⟨tg,iter,ifs,0⟩] ag ai) 0 (.ref it) (.ref s.heap.objs.size) (compEnvC ag cl s3.heap.objs.size X.env))
   (RR (.ref s.heap.objs.size) s3.heap.objs.size) { s3 with heap:=h₁,toks:=s3.toks+([]:Ab (Str×Ad)).length }:=by
  refine Z0I (λn s'=>∃i ys H',Inv X' [] (kB tgs.length fr σ) H' s'/\tn i s'.heap/\(∀b∈fp,H' b=none)/\W i n ys H') ?_ m0
   ⟨0,[],upd H s.heap.objs.size (.lst []),I4,T.keep _ _ _ a5 λb f o e=>B _ _ (L _ _ e),λb f=>(f3 b f).1,w0⟩
  rintro n s5 ⟨i,ys,H5,I5,st5,fr5,w5⟩;obtain⟨hacc,F⟩:=F i n ys H5 w5;rcases F with⟨stop,q⟩|⟨go,step⟩
  .have d:=T.done X' Q U eK eC i [] s5 (kB tgs.length fr σ) H5 (λ_ _=>False) I5 (Z fr5) st5 stop;rw[S]at d;refine Rc d (λr s6 ⟨hr,I6⟩=>?_) λ_ _ z=>z.elim;subst hr;have h:=I6;rw[<- hX']at h;have un6:Un (frs X.stack) fp (upd H s.heap.objs.size (.lst [])) H5 s3.heap s6.heap:=h.base;have I7:Inv X aa σ H5 s6:=t.call' h.os un6 (by have:=h.hok;exact this) h.bare λb f=>⟨(f3 b f).2.2.2.1,(f3 b f).2.1,(f3 b f).2.2.2.2.1,(f3 b f).2.2.2.2.2⟩;obtain⟨m,I,_⟩:=h.loc;refine fin _ _ s6 H5 m I7 I h.free ?_ ?_ ?_ ?_ q
   .exact λz=>by have:=t.lt;rw[<- z]at this;exact Qa9 _ this
   .exact t.sz
   .intro x c e z;obtain⟨v,oc,hoc,_⟩:=t.cell x c e;have:=Qal hoc;rw[z]at this;exact Qa9 _ this
   .intro p hp z;have:=Qal (t.pin p hp).1;rw[z]at this;exact Qa9 _ this
  .have d:=T.item X' Q U eK eC i [] s5 (kB tgs.length fr σ) H5 (λ_ _=>False) I5 (Z fr5) st5 go;rw[S]at d;refine Rc d (λr s6 ⟨u,hr,h6⟩=>?_) λ_ _ z=>z.elim;subst hr;refine Rc h6 (λ_ s7 ⟨x,H7,I7,r7,y7,st7,fr7⟩=>?_) λ_ _ z=>z.elim;have I7':=I7.pinned (Z fr7) (T.obj _ _ st7);have a:=hg' _ s7 _ H7 x u _ I7' r7 (step x H7 y7);rw[G,S,Q,U]at a;refine Rc a (λ_ s8 ⟨σ8,H8,I8,⟨kp,kl⟩,q8⟩=>?_) eX;have b:=ht' _ s8 σ8 H8 _ I8 q8;rw[G,S,Q,U]at b;refine Rc b (λok s9 ⟨H9,I9,q9⟩=>?_) eX;have M:∀{l:Ac}{H10:Hp}{ys10:Ab V}{m':Nat},Inv X' ([]++G6 fp s7.heap) σ8 H10 l->m'<n->W (i+1) m' ys10 H10 ->
     ∃m,m<n/\∃i ys H',Inv X' [] (kB tgs.length fr σ) H' l/\tn i l.heap/\(∀b∈fp,H' b=none)/\W i m ys H':=λ{l H10 ys10 m'} I10 I w10=>by
    refine⟨m',I,i+1,ys10,H10,I10.unpinned.weak kl.symm (λj v e=>?_),T.keep _ _ _ st7 λb f o e=>(I10.pin (b,o) (Qae _ (Qae _ (pC f e)))).1,λb f=>?_,w10⟩
    .by_cases hj:j<tgs.length
     .unfold kB at e;rw[QaI (by simpa using hj),Qbi,if_pos hj]at e;cases e
     .have e1:(σ8.drop tgs.length)[j-tgs.length]?=some (some v):=by
       rw[kp,List.getElem?_drop];rw[show tgs.length+(j-tgs.length)=j by omega];exact e
      rw[List.getElem?_drop,show tgs.length+(j-tgs.length)=j by omega]at e1;exact e1
    .obtain⟨o,e,d⟩:=T.obj _ _ st7 b f;exact(I10.pin (b,o) (Qae _ (Qae _ (pC f e)))).2.1
   cases ok with
   |false =>
    rw[if_neg (by decide)]at q9 ⊢;obtain⟨m',a1,I,w9⟩:=q9;exact M I9 I w9
   |true =>
    rw[if_pos rfl]at q9 ⊢;have c:=he' _ s9 σ8 H9 _ I9 q9;rw[G,S,Q,U]at c;refine Rc c (λy l ⟨v10,H10,I10,r10,a1,ha10,hl10,m',I,w10⟩=>?_) eX;have d:=sR (X:=X') _ l σ8 H10 (.ref s.heap.objs.size) [v10] (.ref s.heap.objs.size) [y] (λ_ H11=>W (i+1) m' (a1++[v10]) H11) I10 rfl (.cons r10 .nil) ⟨_,a1,v10,rfl,rfl,ha10,hl10,w10⟩;rw[S,Q,U]at d;refine Rc d (λ_ s11 ⟨_,H11,I11,_,w11⟩=>M I11 I w11) eX
 exact codeAny_compStart_list a3 (T.self _ 0 _ _ _ (T.keep _ _ _ a5 λb f o e=>B _ _ (L _ _ e)) a3)
def Z2a{cl:Ab (Str×Af)}{R:VK}{E:Ad->Ac->Prop}{RR:Ad->Af->Result->Ac->Prop}(q:Inv X aa σ H s)(T:O1 X.prog X.w X.K tg J fp it tn)(o:tn 0 s.heap)(r:∀b∈fp,xD X aa H b)(hc:X.calm=true)
  (j:dP X.env.scope X.N ag fr=true)
  (f:∀n c,cl.lookup n=some c->X.env.cells.lookup n=some c) (i:∀n,(n,NameKind.free)∈ag.names->∃c,cl.lookup n=some c)
  (t:∀cl C s0 H0 ex aa,PG (cxComp X (cY tgs fr X.N) ag cl C s0 H0 ex aa) tg g)
  (v:∀cl C s0 H0 ex aa,PTs (cxComp X (cY tgs fr X.N) ag cl C s0 H0 ex aa) ifs tt)
  (he:∀cl C s0 H0 ex aa,PE (cxComp X (cY tgs fr X.N) ag cl C s0 H0 ex aa) elt te)
  (u:Z4L J tgs.length fr g tt te σ H R)
  (l:∀D C s' Hend m,Inv X aa σ Hend s'->s'.heap.Ns C m->Hend C=none->C≠X.env.locals->X.s₀.heap.objs.size<=C->(∀x c,X.env.cells.lookup x=some c->c≠C)->(∀p∈X.pn++aa,p.1≠C)->R (.ref D) Hend->RR (.ref D) C (.ok .next) s') :
  wpAny (model X.prog X.w) X.A (newList []) (λaj s₃=>wpAny (model X.prog X.w) X.A (newFunctionEnv ag X.env.globals cl [] X.env.qual none .none (some X.env)) (λa h =>
   codeAny (model X.prog X.w) X.A (.compStart (.ListComp elt [⟨tg,iter,ifs,0⟩] ag ai) 0 (.ref it) aj { a with scope:=relabel ag X.env }) (RR aj a.locals) h) E s₃) E s :=
 V0 (χ:=λ_ _ _ _ _ _ _=>False) q T o r hc j f i t v he u l λ_ _ _ _ _ _ _ _ _ z=>z.elim
def Z4d(hc:X.calm=true)(f:dP X.env.scope X.N ag fr=true)(hi:PI X tg iter wi)
  (E:∀cl C s0 H0 ex aa,PG (cxComp X (cY tgs fr X.N) ag cl C s0 H0 ex aa) tg g)
  (F:∀cl C s0 H0 ex aa,PTs (cxComp X (cY tgs fr X.N) ag cl C s0 H0 ex aa) ifs tt)
  (he:∀cl C s0 H0 ex aa,PE (cxComp X (cY tgs fr X.N) ag cl C s0 H0 ex aa) elt te)
  (hs:∀x,foldedSetIterable iter X.env x=pure x:=by intro _;rfl) :
  PE X (.ListComp elt [⟨tg,iter,ifs,0⟩] ag ai) (C7 wi tgs.length fr g tt te):=by
 intro aa s σ H Q I h;have a:=f;simp only[dP,Qak,Qaz]at a;obtain⟨⟨⟨⟨c1,c2⟩,B⟩,U⟩,G⟩:=a;obtain⟨cl,r,j,i⟩:=pP (ag:=ag) (ac:=X.env) λn l=>I.ok.has n (by have:=B _ l;show X.env.scope.names.lookup n=_\/X.env.scope.names.lookup n=_;simpa using this);rw[eval_ListComp];refine wpAny_comprehension_free (use:=none) rfl hs r (by simpa using c1) (λx hx hl=>by have:=G x hx;rw[hl]at this;simpa using this) (thn (hi aa s σ H _ I h) λx s1 h1=>thn h1 λitv s2 h2=>?_);obtain⟨it,fp,tn,J,S,rfl,K,T,v,y,P⟩:=h2;refine Z2a (R:=Q) (RR:=λaj C=>compPost (model X.prog X.w) X.A X.xe none (EP X aa σ Q) aj C) K T v y hc f j i E F he P ?_;intro D C s' p m M l O L hsz u t q;exact⟨m,l,λh' hs'=>⟨.ref D,p,M.turned (t':=s'.toks) (λb o hb e=>hs'.extBut b o hb e) O L (.inr hsz) u t,rfl,q⟩⟩
def Z2V(hc:X.calm=true)(hN:X.N.Nodup)(F:X.N[i]?=some x)(t:Loc X.env.scope x)(j:dP X.env.scope X.N ag fr=true)(hi:PI X tg iter wi)
  (W:∀cl C s0 H0 ex aa,PG (cxComp X (cY tgs fr X.N) ag cl C s0 H0 ex aa) tg g)
  (Y:∀cl C s0 H0 ex aa,PTs (cxComp X (cY tgs fr X.N) ag cl C s0 H0 ex aa) ifs tt)
  (he:∀cl C s0 H0 ex aa,PE (cxComp X (cY tgs fr X.N) ag cl C s0 H0 ex aa) elt te)
  (O:swapsWith (.ListComp elt [⟨tg,iter,ifs,0⟩] ag ai) (some (.Name x pos')) spos.line X.env=pure true)
  (hf:X.fn x=true\/X.env.scope.names.lookup x=some .local:=by first|exact .inl rfl|exact .inr rfl|assumption)
  (hs:∀x,foldedSetIterable iter X.env x=pure x:=by intro _;rfl) :
  PS X (.Assign [.Name x pos'] (.ListComp elt [⟨tg,iter,ifs,0⟩] ag ai) spos) (Z8I (C7 wi tgs.length fr g tt te) (zD i)):=by
 intro aa s σ H D I h;have f:=j;simp only[dP,Qak,Qaz]at f;obtain⟨⟨⟨⟨c1,c2⟩,U⟩,c4⟩,Z⟩:=f;obtain⟨cl,G,y,r⟩:=pP (ag:=ag) (ac:=X.env) λn B=>I.ok.has n (by have:=U _ B;show X.env.scope.names.lookup n=_\/X.env.scope.names.lookup n=_;simpa using this);rw[exec_Assign_Name_used _ _ _ _ O];refine Ra (wpAny_standAt (Ra ?_));show wpAny _ X.A (do let _ <- comprehension (.ListComp elt [⟨tg,iter,ifs,0⟩] ag ai) ag X.env _ (newList []) false (eval iter X.env) (some (assign (.Name x pos') X.env))) _ _ s
 refine Ra (Rc (wpAny_comprehension_free (use:=some (assign (.Name x pos') X.env)) (Q:=λ_ s'=>SP X aa D .next s') rfl hs G (by simpa using c1) (λx t hl=>by have:=Z x t;rw[hl]at this;simpa using this)
  (thn (hi aa s σ H _ I h) λx s1 h1=>thn h1 λitv s2 h2=>?_)) (λ_ s' hq=>Rb (Rb hq)) λ_ _ e=>e)
 obtain⟨it,fp,tn,J,H2,rfl,I2,T,L,S,rd⟩:=h2;refine Z2a (RR:=λaj C=>compPost (model X.prog X.w) X.A X.xe (some (assign (.Name _ pos') X.env)) (λ_ s'=>SP X aa D .next s') aj C) I2 T L S hc j y r W Y he rd ?_;intro p C s' E m I' B P R hsz l K q;show wpAny _ X.A (assign (.Name _ pos') X.env (.ref p)) _ _ s';refine wpAny_assign_Name (xE I' hN F t (v:=.ref p) (u:=.ref p) rfl (λs'' I'' ⟨a,hsa,ha⟩=>?_) hf);have M:C≠a:=by
  rcases ha with z|z
  .rw[z];exact R
  .exact λe=>l _ _ z e.symm
 exact⟨m,B.sameBut hsa M,λh' hs'=>⟨_,E,I''.turned (t':=s''.toks) (λb o hb e=>hs'.extBut b o hb e) P R (.inr hsz) l K,q⟩⟩
end
def Ite(K:Frag)(a:Af):It :=
 ⟨λi H=>∃xs x,SqL K H a xs/\xs[i]?=some x,λi H x H'=>∃p y,H p=none/\x=.ref p/\(∀xs,SqL K H a xs->xs[i]?=some y)/\H'=upd H p (.tup [.int (i:Int),y]),λi H=>∃xs,SqL K H a xs/\xs.length<=i⟩
def Z4T{P:Aj}{w:Ak}{K:Frag}{elts:Ab Ag}{k1:Nat}{ai:Pos}(a e it:Af)(G:e≠it) :
  O1 P w K (.Tuple elts k1 ai) (Ite K a) [e,it] e (λi h=>(∃l,IsEnum h e it i l)/\h.IsListIter it a i) where
 mem:=by simp
 obj:=λi h st b f=>by
  obtain⟨⟨l,he⟩,o,Y,c,d⟩:=st;rcases Qab.mp f with z|z
  .subst z;exact⟨_,he,λv q=>by cases q⟩
  .have z:b=it:=by simpa using z
   subst z;exact⟨o,Y,λv q=>by rw[d]at q;cases q⟩
 keep:=λi h h' st k=>⟨let ⟨l,he⟩:=st.1;⟨l,k e (by simp) _ he⟩,st.2.at λo q=>k it (by simp) o q⟩
 item:=by
  intro X Q hw N hc i aa s σ H E I F st M;subst Q hw N;obtain⟨xs,x,hq,O⟩:=M;obtain⟨ak,L,p,hz⟩:=I.list hq;obtain⟨u,W,T⟩:=L.get O;obtain⟨⟨l,he⟩,A⟩:=st;have fe:=F e (by simp);have C:=F it (by simp);refine wpAny_pyNext_enum_item he A p.isList (x:=u) (by simpa using W) G λh' J hit' hT hsz hk=>?_;refine⟨_,rfl,wpAny_letOwnedTupleGo_enum (s:={ s with heap:=h',toks:=s.toks+1 }) J λh'' he'' hs''=>?_⟩;have j:H s.heap.objs.size=none:=I.fresh;have lt:∀b o,s.heap.get? b=some o->b≠s.heap.objs.size:=λb o q=>QaA (Qal q);have B:∀b o,b≠e->b≠it->s.heap.get? b=some o->h''.get? b=some o:=λb o h1 h2 q=>(hs''.2 b h1).trans (hk b o h1 h2 q);have R:e≠s.heap.objs.size:=lt _ _ he;have t:∀b u,H b=some u->b≠e/\b≠it:=λb u q=>⟨λz=>(by rw[z,fe.1]at q;cases q),λz=>(by rw[z,C.1]at q;cases q)⟩;refine⟨.ref s.heap.objs.size,upd H s.heap.objs.size (.tup [.int (i:Int),x]),?_,rfl,⟨_,x,j,rfl,λys hy=>by rw[I.list_inj hy hq];exact O,rfl⟩,⟨⟨_,by simpa using he''⟩,hit'.at λo q=>(hs''.2 it (Ne.symm G)).trans q⟩,λb f=>?_⟩
  .refine Inv.step (s:=s) (h':=h'') (t':=s.toks+1) (H':=upd H s.heap.objs.size (.tup [.int (i:Int),x])) (g':=s.gens) (d':=s.drawn) (ch:=[e,it]) I (λb f=>?_) (λb o _ _ hc q _=>B b o (λz=>hc (by simp[z])) (λz=>hc (by simp[z])) q) (λb o _ _ hc q _=>⟨o.slots,B b o (λz=>hc (by simp[z])) (λz=>hc (by simp[z])) q⟩)
    (λb o _ q n=>by rw[aY (lt b o q)];exact n) (λb o hc q=>⟨o,B b o (λz=>hc (by simp[z])) (λz=>hc (by simp[z])) q⟩)
    (λb ys q=>by rw[aY (bL q j)];exact q) (λb o u q=>by rw[aY (bL q j)];exact q) (λb ps q=>⟨#[],by rw[aY (bL q j),q];simp⟩) (λm hm=>?_) (λb u q=>?_) I.bare
   .rcases Qab.mp f with z|z
    .subst z;exact⟨fe.2.2.2.1,fe.2.1,fe.2.2.2.2.1,fe.2.2.2.2.2⟩
    .have z:b=it:=by simpa using z
     subst z;exact⟨C.2.2.2.1,C.2.1,C.2.2.2.2.1,C.2.2.2.2.2⟩
   .obtain⟨o,es,ep,J,r⟩:=hm;exact⟨o,es,ep,B _ o (Ne.symm fe.2.1) (Ne.symm C.2.1) J,r⟩
   .by_cases f:b=s.heap.objs.size
    .subst f;rw[bC]at q;cases q;refine⟨by show 2<=sizeLine;decide,[.int (i:Int) s.toks,u],.cons ⟨_,rfl⟩ (.cons T .nil),_,(hs''.2 _ (Ne.symm R)).trans hT,rfl,_,rfl⟩
    .rw[aY f]at q;refine(I.hok b u q).stay (λc v hc z=>?_) (λc z=>by rw[aY (bL z j)];exact z) λc ys z=>by rw[aY (bL z j)];exact z
     rcases hc with y|y
     .rw[y]at z ⊢;exact B _ _ (t b u q).1 (t b u q).2 z
     .exact B _ _ (t c _ y).1 (t c _ y).2 z
  .have S:b<s.heap.objs.size:=by
    rcases Qab.mp f with z|z
    .subst z;exact Qal he
    .have z:b=it:=by simpa using z
     subst z;obtain⟨o,q,_⟩:=A;exact Qal q
   rw[aY (QaA S)];exact(F b f).1
 done:=by
  intro X Q hw N hc i aa s σ H E I F st M;subst Q hw N;obtain⟨xs,hq,O⟩:=M;obtain⟨ak,L,p,hz⟩:=I.list hq;obtain⟨⟨l,he⟩,A⟩:=st;obtain⟨U,f1,f2,f3,Z,f5⟩:=F it (by simp);have hl:=L.length;exact wpAny_pyNext_enum_end (I.ok.hd hc) he A p.isList (by simp;omega) λh' eb=>⟨rfl,I.turned (t':=s.toks) (λb o f e=>eb b o f e) U f1 f3 Z f5⟩
 self:=λ_ _ _ _ _ st h=>wpAny_pyIter_enum st.1.choose_spec h
section
variable {X:Cx}{elts:Ab Ag}{k1:Nat}{tpos:Pos}
def Zdk(K:Frag)(ta:TA):TI:=λσ H R=>ta σ H λvs H1=>∃a,vs=[.ref a]/\(∃xs,SqL K H1 a xs)/\R (Ite K a) H1
def Z9B{l:Ag}{ta:TA}{p ai:Pos}(n:Gl X "enumerate")(o:X.mg "enumerate" = none)(j:PA X [l] ta)(hs:starEach [l] X.env=[(false,eval l X.env)]:=by rfl) :
  PI X (.Tuple elts k1 tpos) (.Call (.Name "enumerate" p) [l] [] ai) (Zdk X.K ta):=by
 intro aa s σ H R I h;refine Call_ (uU I n o PyProof.Rows.boot_enumerate (PyProof.Rows.callWith_type1 (thn (j ai aa s σ H _ I h) λus s1 ⟨vs,H1,I1,r1,q1⟩=>?_) hs rfl));obtain⟨a,rfl,⟨xs,hq⟩,q⟩:=q1;cases r1 with
 |cons r rr =>
  cases rr;cases r;obtain⟨ak,t,pl,u⟩:=I1.list hq;refine call_enumerate_list pl.isList λh' he hit hsz hk=>?_;refine wpAny_pyIter_enum (s:={ s1 with heap:=h' }) he ?_;have i:Inv X aa σ H1 { s1 with heap:=h' }:=I1.kept (t':=s1.toks) hk;refine⟨s1.heap.objs.size+1,[s1.heap.objs.size+1,s1.heap.objs.size],_,_,H1,rfl,i,Z4T a _ _ (Nat.succ_ne_self _),⟨⟨_,he⟩,hit⟩,λb hb=>?_,q⟩;have f:s1.heap.objs.size<=b:=by
   rcases Qab.mp hb with z|z
   .rw[z];exact Nat.le_succ _
   .have z:b=s1.heap.objs.size:=by simpa using z
    rw[z];exact Qap _
  exact I1.fpOk f (I1.hok.fresh f)
end
end L2
namespace PD
open PySem PySem.Spec PyProof.Rows L2
inductive D where
 |non|bl (b:Bool)|int (i:Int)|str (x:Str)|tup (xs:List D)|lst (xs:List D)|obj (C:Addr) (ns:List Str) (xs:List D)|dk (ks:List Key) (xs:List D)|exc (C:Addr)|fn (a:Addr) (vs:List V) (xs:List D)
def rF(a:Af)(cls:Ad):Ah->Prop:=λh=>∃oe vs,h.get? a=some oe/\oe.cls=cls/\oe.data=.fields vs
mutual
def flat:D->Bool
 | .non=>true
 | .bl _=>true
 | .int _=>true
 | .str _=>true
 | .tup xs=>flats xs
 | .lst _=>false
 | .obj _ _ _=>false
 | .dk _ _=>false
 | .exc _=>false
 | .fn _ _ _=>false
def flats:Ab D->Bool
 |[]=>true
 |x::r=>flat x&&flats r
end
def FzL(K:Frag)(H:Hp)(a:Af)(vs:Ab V):Prop:=(∃o,H a=some (.frz o (.lst vs))) \/
  ∃(o:Obj) (ak:Ae Ad) (n:Nat),K.lookup a=some o/\o.cls=.type "list" /\ o.dict=none/\o.data=.seq ak n/\ak.size<=sizeLine/\Vals vs ak.toList
def FzL.sq{K:Frag}{H:Hp}{a:Af}{vs:Ab V}(h:FzL K H a vs):SqL K H a vs:=by
 rcases h with⟨o,h⟩|h
 .exact .inl (.inr ⟨o,h⟩)
 .exact .inr h
def Z6B{K:Frag}{H:Hp}{a:Af}{vs:Ab V}(h:SqL K H a vs):H a=some (.lst vs)\/FzL K H a vs:=by
 rcases h with(h|⟨o,h⟩)|h
 .exact .inl h
 .exact .inr (.inl ⟨o,h⟩)
 .exact .inr (.inr h)
mutual
def Rep(K:Frag)(st:Bool)(H:Hp):D->V->Ab Af->Prop
 | .non,v,fp=>v=.non/\fp=[]
 | .bl b,v,fp=>v=.bl b/\fp=[]
 | .int i,v,fp=>v=.int i/\fp=[]
 | .str x,v,fp=>v=.str x/\fp=[]
 | .tup ds,v,fp=>∃a vs,v=.ref a/\SqT K H a vs/\Reps K st H ds vs fp
 | .lst ds,v,fp=>∃a vs fp',v=.ref a/\Reps K st H ds vs fp'/\((fp=a::fp'/\H a=some (.lst vs))\/(st=false/\fp=fp'/\FzL K H a vs))
 | .obj C ns ds,v,fp=>∃a dx vs fp',v=.ref a/\fp=a::dx::fp'/\H a=some (.ins C dx (ns.zip vs))/\H dx=some (.own a)/\ns.length=vs.length/\Reps K st H ds vs fp'
 | .dk ks ds,v,fp=>∃a vs fp',v=.ref a/\fp=a::fp'/\H a=some (.dK (ks.zip vs))/\ks.length=vs.length/\Reps K st H ds vs fp'
 | .exc C,v,fp=>∃a,v=.ref a/\fp=[a]/\H a=some (.ext (rF a (.ref C)))
 | .fn a vs ds,v,fp=>v=.ref a/\Reps K st H ds vs fp
def Reps(K:Frag)(st:Bool)(H:Hp):Ab D->Ab V->Ab Af->Prop
 |[],vs,fp=>vs=[]/\fp=[]
 |d::ds,vs,fp=>∃v r f1 f2,vs=v::r/\fp=f1++f2/\Rep K st H d v f1/\Reps K st H ds r f2
end
section
variable {K:Frag}{st:Bool}{H H':Hp}
structure Kp(fp:List Addr)(H H':Hp):Prop where
 fps:∀b∈fp,∀o,H b=some o->H' b=some o
 tup:∀b xs,H b=some (.tup xs)->H' b=some (.tup xs)
 frz:∀b o u,H b=some (.frz o u)->H' b=some (.frz o u)
def Kp.same(e:Same H H')(fp:Ab Af):Kp fp H H':=⟨λb _ o h=>e b o h,λb xs h=>e _ _ h,λb o u h=>e _ _ h⟩
def Kp.sub(k:Kp fp H H')(h:∀b∈fp',b∈fp):Kp fp' H H':=⟨λb hb=>k.fps b (h b hb),k.tup,k.frz⟩
theorem Kp.upd(h:H a=some o)(n:∀xs,o ≠ .tup xs)(l:∀x u,o ≠ .frz x u)(j:a∉fp):Kp fp H (L2.upd H a o') :=
 ⟨fun b i u e => by have f : b ≠ a := (fun z => j (by rw [<- z]; exact i)); rw [aY f]; exact e,
  λb xs e=>by rw[aY (λz=>by rw[z,h]at e;exact n xs (QaF e))];exact e,
  λb x u e=>by rw[aY (λz=>by rw[z,h]at e;exact l x u (QaF e))];exact e⟩
def Zbf(k:Kp fp H H'){a:Af}{xs:Ab V}(h:SqT K H a xs):SqT K H' a xs:=by
 rcases h with(h|⟨o,h⟩)|h
 .exact .inl (.inl (k.tup _ _ h))
 .exact .inl (.inr ⟨o,k.frz _ _ _ h⟩)
 .exact .inr h
def Zcc(k:Kp fp H H'){a:Af}{xs:Ab V}(h:FzL K H a xs):FzL K H' a xs:=by
 rcases h with⟨o,h⟩|h
 .exact .inl ⟨o,k.frz _ _ _ h⟩
 .exact .inr h
mutual
theorem Rep.keep:∀(d:D) (v:V) (fp:Ab Af),Kp fp H H'->Rep K st H d v fp->Rep K st H' d v fp
 | .non,v,fp,_,h=>by simpa only [Rep]using h
 | .bl b,v,fp,_,h=>by simpa only [Rep]using h
 | .int i,v,fp,_,h=>by simpa only [Rep]using h
 | .str x,v,fp,_,h=>by simpa only [Rep]using h
 | .tup ds,v,fp,k,h=>by
  simp only[Rep]at h ⊢;obtain⟨a,vs,e,hs,hr⟩:=h;exact⟨a,vs,e,Zbf k hs,Reps.keep ds vs fp k hr⟩
 | .lst ds,v,fp,k,h=>by
  simp only[Rep]at h ⊢;obtain⟨a,vs,fp',e,hr,hs⟩:=h;rcases hs with⟨rfl,hs⟩|⟨h1,rfl,hs⟩
  .exact⟨a,vs,fp',e,Reps.keep ds vs fp' (k.sub λb hb=>Qaa _ hb) hr,.inl ⟨rfl,k.fps a Qag _ hs⟩⟩
  .exact⟨a,vs,fp,e,Reps.keep ds vs fp k hr,.inr ⟨h1,rfl,Zcc k hs⟩⟩
 | .obj C ns ds,v,fp,k,h=>by
  simp only[Rep]at h ⊢;obtain⟨a,dx,vs,fp',e,rfl,hs,hd,hl,hr⟩:=h;exact⟨a,dx,vs,fp',e,rfl,k.fps a Qag _ hs,k.fps dx (Qaa _ Qag) _ hd,hl,Reps.keep ds vs fp' (k.sub λb hb=>Qaa _ (Qaa _ hb)) hr⟩
 | .dk ks ds,v,fp,k,h=>by
  simp only[Rep]at h ⊢;obtain⟨a,vs,fp',e,rfl,hs,hl,hr⟩:=h;exact⟨a,vs,fp',e,rfl,k.fps a Qag _ hs,hl,Reps.keep ds vs fp' (k.sub λb hb=>Qaa _ hb) hr⟩
 | .exc C,v,fp,k,h=>by
  simp only[Rep]at h ⊢;obtain⟨a,e,rfl,hs⟩:=h;exact⟨a,e,rfl,k.fps a Qag _ hs⟩
 | .fn a vs ds,v,fp,k,h=>by
  simp only[Rep]at h ⊢;exact⟨h.1,Reps.keep ds vs fp k h.2⟩
theorem Reps.keep:∀(ds:Ab D) (vs:Ab V) (fp:Ab Af),Kp fp H H'->Reps K st H ds vs fp->Reps K st H' ds vs fp
 |[],vs,fp,_,h=>by simpa only [Reps]using h
 |d::ds,vs,fp,k,h=>by
  simp only[Reps]at h ⊢;obtain⟨v,r,f1,f2,e1,rfl,h1,h2⟩:=h;exact⟨v,r,f1,f2,e1,rfl,Rep.keep d v f1 (k.sub λb hb=>Qar _ hb) h1,Reps.keep ds r f2 (k.sub λb hb=>Qae _ hb) h2⟩
end
theorem Rep.same(e:Same H H')(h:Rep K st H d v fp):Rep K st H' d v fp:=Rep.keep d v fp (Kp.same e fp) h
theorem Reps.same(e:Same H H')(h:Reps K st H ds vs fp):Reps K st H' ds vs fp:=Reps.keep ds vs fp (Kp.same e fp) h
mutual
theorem Rep.dom:∀(d:D) (v:V) (fp:Ab Af),Rep K st H d v fp->∀b∈fp,∃o,H b=some o
 | .non,v,fp,h,b,hb=>by simp only[Rep]at h;rw[h.2]at hb;cases hb
 | .bl _,v,fp,h,b,hb=>by simp only[Rep]at h;rw[h.2]at hb;cases hb
 | .int _,v,fp,h,b,hb=>by simp only[Rep]at h;rw[h.2]at hb;cases hb
 | .str _,v,fp,h,b,hb=>by simp only[Rep]at h;rw[h.2]at hb;cases hb
 | .tup ds,v,fp,h,b,hb=>by
  simp only[Rep]at h;obtain⟨a,vs,e,hs,hr⟩:=h;exact Reps.dom ds vs fp hr b hb
 | .lst ds,v,fp,h,b,hb=>by
  simp only[Rep]at h;obtain⟨a,vs,fp',e,hr,hs⟩:=h;rcases hs with⟨rfl,hs⟩|⟨_,rfl,hs⟩
  .rcases Qab.mp hb with z|z
   .exact⟨_,z ▸ hs⟩
   .exact Reps.dom ds vs fp' hr b z
  .exact Reps.dom ds vs fp hr b hb
 | .obj C ns ds,v,fp,h,b,hb=>by
  simp only[Rep]at h;obtain⟨a,dx,vs,fp',e,rfl,hs,hd,hl,hr⟩:=h;rcases Qab.mp hb with z|z
  .exact⟨_,z ▸ hs⟩
  .rcases Qab.mp z with z|z
   .exact⟨_,z ▸ hd⟩
   .exact Reps.dom ds vs fp' hr b z
 | .dk ks ds,v,fp,h,b,hb=>by
  simp only[Rep]at h;obtain⟨a,vs,fp',e,rfl,hs,hl,hr⟩:=h;rcases Qab.mp hb with z|z
  .exact⟨_,z ▸ hs⟩
  .exact Reps.dom ds vs fp' hr b z
 | .exc C,v,fp,h,b,hb=>by
  simp only[Rep]at h;obtain⟨a,e,rfl,hs⟩:=h;rw[Qaq.mp hb];exact⟨_,hs⟩
 | .fn a vs ds,v,fp,h,b,hb=>by
  simp only[Rep]at h;exact Reps.dom ds vs fp h.2 b hb
theorem Reps.dom:∀(ds:Ab D) (vs:Ab V) (fp:Ab Af),Reps K st H ds vs fp->∀b∈fp,∃o,H b=some o
 |[],vs,fp,h,b,hb=>by simp only[Reps]at h;rw[h.2]at hb;cases hb
 |d::ds,vs,fp,h,b,hb=>by
  simp only[Reps]at h;obtain⟨v,r,f1,f2,e1,rfl,h1,h2⟩:=h;rcases Qaf.mp hb with z|z
  .exact Rep.dom d v f1 h1 b z
  .exact Reps.dom ds r f2 h2 b z
end
mutual
theorem Rep.flat:∀(d:D) (v:V) (fp:Ab Af),PD.flat d=true->Rep K st H d v fp->fp=[]/\∀st',Rep K st' H d v []
 | .non,v,fp,_,h=>by simp only[Rep]at h ⊢;exact⟨h.2,λ_=>⟨h.1,trivial⟩⟩
 | .bl _,v,fp,_,h=>by simp only[Rep]at h ⊢;exact⟨h.2,λ_=>⟨h.1,trivial⟩⟩
 | .int _,v,fp,_,h=>by simp only[Rep]at h ⊢;exact⟨h.2,λ_=>⟨h.1,trivial⟩⟩
 | .str _,v,fp,_,h=>by simp only[Rep]at h ⊢;exact⟨h.2,λ_=>⟨h.1,trivial⟩⟩
 | .tup ds,v,fp,f,h=>by
  simp only[Rep]at h ⊢;obtain⟨a,vs,e,hs,hr⟩:=h;obtain⟨h1,h2⟩:=Reps.flat ds vs fp (by simpa only [PD.flat]using f) hr;exact⟨h1,λst'=>⟨a,vs,e,hs,h2 st'⟩⟩
 | .lst ds,v,fp,f,h=>by simp only[PD.flat]at f;cases f
 | .obj C ns ds,v,fp,f,h=>by simp only[PD.flat]at f;cases f
 | .dk ks ds,v,fp,f,h=>by simp only[PD.flat]at f;cases f
 | .exc C,v,fp,f,h=>by simp only[PD.flat]at f;cases f
 | .fn a vs ds,v,fp,f,h=>by simp only[PD.flat]at f;cases f
theorem Reps.flat:∀(ds:Ab D) (vs:Ab V) (fp:Ab Af),flats ds=true->Reps K st H ds vs fp->fp=[]/\∀st',Reps K st' H ds vs []
 |[],vs,fp,_,h=>by simp only[Reps]at h ⊢;exact⟨h.2,λ_=>⟨h.1,trivial⟩⟩
 |d::ds,vs,fp,f,h=>by
  simp only[Reps]at h ⊢;simp only[flats,Qak]at f;obtain⟨v,r,f1,f2,e1,rfl,h1,h2⟩:=h;obtain⟨a1,a2⟩:=Rep.flat d v f1 f.1 h1;obtain⟨b1,b2⟩:=Reps.flat ds r f2 f.2 h2;subst a1 b1;exact⟨rfl,λst'=>⟨v,r,[],[],e1,rfl,a2 st',b2 st'⟩⟩
end
mutual
theorem Rep.weak:∀(d:D) (v:V) (fp:Ab Af),Rep K st H d v fp->Rep K false H d v fp
 | .non,v,fp,h=>by simpa only [Rep]using h
 | .bl _,v,fp,h=>by simpa only [Rep]using h
 | .int _,v,fp,h=>by simpa only [Rep]using h
 | .str _,v,fp,h=>by simpa only [Rep]using h
 | .tup ds,v,fp,h=>by
  simp only[Rep]at h ⊢;obtain⟨a,vs,e,hs,hr⟩:=h;exact⟨a,vs,e,hs,Reps.weak ds vs fp hr⟩
 | .lst ds,v,fp,h=>by
  simp only[Rep]at h ⊢;obtain⟨a,vs,fp',e,hr,hs⟩:=h;refine⟨a,vs,fp',e,Reps.weak ds vs fp' hr,?_⟩;rcases hs with hs|⟨_,h1,h2⟩
  .exact .inl hs
  .exact .inr ⟨trivial,h1,h2⟩
 | .obj C ns ds,v,fp,h=>by
  simp only[Rep]at h ⊢;obtain⟨a,dx,vs,fp',e,h1,hs,hd,hl,hr⟩:=h;exact⟨a,dx,vs,fp',e,h1,hs,hd,hl,Reps.weak ds vs fp' hr⟩
 | .dk ks ds,v,fp,h=>by
  simp only[Rep]at h ⊢;obtain⟨a,vs,fp',e,h1,hs,hl,hr⟩:=h;exact⟨a,vs,fp',e,h1,hs,hl,Reps.weak ds vs fp' hr⟩
 | .exc C,v,fp,h=>by simpa only [Rep]using h
 | .fn a vs ds,v,fp,h=>by
  simp only[Rep]at h ⊢;exact⟨h.1,Reps.weak ds vs fp h.2⟩
theorem Reps.weak:∀(ds:Ab D) (vs:Ab V) (fp:Ab Af),Reps K st H ds vs fp->Reps K false H ds vs fp
 |[],vs,fp,h=>by simpa only [Reps]using h
 |d::ds,vs,fp,h=>by
  simp only[Reps]at h ⊢;obtain⟨v,r,f1,f2,e1,e2,h1,h2⟩:=h;exact⟨v,r,f1,f2,e1,e2,Rep.weak d v f1 h1,Reps.weak ds r f2 h2⟩
end
theorem Reps.length:∀{ds:Ab D}{vs:Ab V}{fp:Ab Af},Reps K st H ds vs fp->vs.length=ds.length
 |[],vs,fp,h=>by simp only[Reps]at h;rw[h.1];rfl
 |d::ds,vs,fp,h=>by
  simp only[Reps]at h;obtain⟨v,r,f1,f,a,b,h1,h2⟩:=h;rw[a,Qai,Qai,Reps.length h2]
theorem Reps.get:∀{ds:Ab D}{vs:Ab V}{fp:Ab Af}{i:Nat}{d:D},Reps K st H ds vs fp->ds[i]?=some d->∃v f,vs[i]?=some v/\Rep K st H d v f/\(∀b∈f,b∈fp)/\(fp.Nodup->f.Nodup)
 |[],vs,fp,i,d,h,e=>by simp at e
 |d::ds,vs,fp,i,d',h,e=>by
  simp only[Reps]at h;obtain⟨v,r,f1,o,rfl,rfl,h1,h2⟩:=h;cases i with
  |zero =>
   simp at e;subst e;exact⟨v,f1,rfl,h1,λb hb=>Qar _ hb,λnd=>(Qau.mp nd).1⟩
  |succ i =>
   obtain⟨w,f,j,l,n,a⟩:=Reps.get h2 (by simpa using e);exact⟨w,f,by simpa using j,l,λb hb=>Qae _ (n b hb),λnd=>a (Qau.mp nd).2.1⟩
theorem Reps.snoc:∀{ds:Ab D}{vs:Ab V}{fp fd:Ab Af}{d:D}{v:V},Reps K st H ds vs fp->Rep K st H d v fd->Reps K st H (ds++[d]) (vs++[v]) (fp++fd)
 |[],vs,fp,fd,d,v,h,hd=>by
  simp only[Reps]at h;obtain⟨rfl,rfl⟩:=h;simp only[List.nil_append,Reps];exact⟨v,[],fd,[],rfl,(QaN _).symm,hd,rfl,rfl⟩
 |d'::ds,vs,fp,fd,d,v,h,hd=>by
  simp only[Reps]at h;obtain⟨w,r,f1,a,rfl,rfl,h1,h2⟩:=h;simp only[List.cons_append,Reps];exact⟨w,r++[v],f1,a++fd,rfl,List.append_assoc ..,h1,Reps.snoc h2 hd⟩
theorem Reps.append:∀{ds es:Ab D}{vs us:Ab V}{fp fd:Ab Af},Reps K st H ds vs fp->Reps K st H es us fd->Reps K st H (ds++es) (vs++us) (fp++fd)
 |[],es,vs,us,fp,fd,h,hd=>by
  simp only[Reps]at h;obtain⟨rfl,rfl⟩:=h;exact hd
 |d'::ds,es,vs,us,fp,fd,h,hd=>by
  simp only[Reps]at h;obtain⟨w,r,f1,a,rfl,rfl,h1,h2⟩:=h;simp only[List.cons_append,Reps];exact⟨w,r++us,f1,a++fd,rfl,List.append_assoc ..,h1,Reps.append h2 hd⟩
def cB(h:Rep K st H (.lst ds) v fp):∃a vs fp',v=.ref a/\SqL K H a vs/\Reps K st H ds vs fp'/\(∀b∈fp',b∈fp):=by
 simp only[Rep]at h;obtain⟨a,vs,fp',e,f,hs⟩:=h;rcases hs with⟨rfl,hs⟩|⟨_,rfl,hs⟩
 .exact⟨a,vs,fp',e,SqL.of hs,f,λb hb=>Qaa _ hb⟩
 .exact⟨a,vs,fp,e,hs.sq,f,λb hb=>hb⟩
def mG(h:Rep K true H (.lst ds) v fp):∃a vs fp',v=.ref a/\fp=a::fp'/\H a=some (.lst vs)/\Reps K true H ds vs fp':=by
 simp only[Rep]at h;obtain⟨a,vs,fp',e,f,hs⟩:=h;rcases hs with⟨b,hs⟩|⟨z,_⟩
 .exact⟨a,vs,fp',e,b,hs,f⟩
 .cases z
end
abbrev Slot:=Aa (Bool×D)
abbrev En:=Ab Slot
def EnvOk(K:Frag)(H:Hp)(σ:L2.St)(ac:En)(F:Nat->Ab Af):Prop :=
 ∀i o d,ac[i]?=some (some (o,d))->∃v,σ[i]?=some (some v)/\Rep K false H d v (F i)
theorem EnvOk.same{K:Frag}(h:EnvOk K H σ ac F)(e:Same H H'):EnvOk K H' σ ac F :=
 λi o d q=>let ⟨v,h1,h2⟩:=h i o d q;⟨v,h1,h2.same e⟩
def Cond(F:Nat->Ab Af)(H:Hp)(m:Bool)(rs:Ab Nat)(fp:Ab Af):Prop:=(∀b∈fp,H b=none\/∃r∈rs,b∈F r)/\(m=true->fp.Nodup/\∀b∈fp,H b=none)
def Cond.nil:Cond F H m rs []:=⟨λb hb=>(by cases hb),λ_=>⟨QaD,λb hb=>(by cases hb)⟩⟩
def Cond.back(c:Cond F H' m rs fp)(e:Same H H'):Cond F H m rs fp :=
 ⟨λb hb=>(c.1 b hb).imp (λz=>e.free z) id,λa=>⟨(c.2 a).1,λb hb=>e.free ((c.2 a).2 b hb)⟩⟩
def tD(K:Frag)(m:Bool)(rs:Ab Nat)(f:En->Aa D):TE:=λσ H Q =>
 ∃ac F d,EnvOk K H σ ac F/\f ac=some d/\∀v H' fp,Same H H'->Rep K m H' d v fp->Cond F H m rs fp->Q v H'
def tDT(K:Frag)(f:En->Aa Bool):TT:=λσ H Q =>
 ∃ac F b,EnvOk K H σ ac F/\f ac=some b/\∀H',Same H H'->Q b H'
def tDA(K:Frag)(m:Bool)(rs:Ab Nat)(f:En->Aa (Ab D)):TA:=λσ H Q =>
 ∃ac F ds,EnvOk K H σ ac F/\f ac=some ds/\∀vs H' fp,Same H H'->Reps K m H' ds vs fp->Cond F H m rs fp->Q vs H'
def QE(X:Cx)(m:Bool)(rs:Ab Nat)(e:Ag)(f:En->Aa D):Prop:=PE X e (tD X.K m rs f)
def QT(X:Cx)(e:Ag)(f:En->Aa Bool):Prop:=PT X e (tDT X.K f)
def QW(X:Cx)(e:Ag)(f:En->Aa Bool):Prop:=PW X e (tDT X.K f)
def QA(X:Cx)(m:Bool)(rs:Ab Nat)(es:Ab Ag)(f:En->Aa (Ab D)):Prop:=PA X es (tDA X.K m rs f)
section
variable {X:Cx}{m m':Bool}{rs rs':Ab Nat}{e a b c:Ag}{es rest:Ab Ag}{f fa fb:En->Aa D}{g ga gb:En->Aa Bool}{ai:Pos}
def QE.mk(h:PE X e t)(hi:∀σ H Q,tD X.K m rs f σ H Q->t σ H Q):QE X m rs e f:=λaa s σ H Q I q=>h aa s σ H Q I (hi σ H Q q)
def QT.mk(h:PT X e t)(hi:∀σ H Q,tDT X.K g σ H Q->t σ H Q):QT X e g:=λaa s σ H Q I q=>h aa s σ H Q I (hi σ H Q q)
def QW.mk(h:PW X e t)(hi:∀σ H Q,tDT X.K g σ H Q->t σ H Q):QW X e g:=λwhole aa s σ H Q I q=>h whole aa s σ H Q I (hi σ H Q q)
def QW.qt(h:QW X e g):QT X e g:=h.pt
def aD(i:Nat):En->Aa D:=λac=>(ac[i]?).join.map (·.2)
def fC(d:D):En->Aa D:=λ_=>some d
def fI2(C:Int->Int->Prop)(g:Int->Int->D)(fa fb:En->Aa D):En->Aa D:=λac =>
 match fa ac,fb ac with
 |some (.int i),some (.int j)=>open Classical in if C i j then some (g i j) else none
 |_,_=>none
def fI0(g:Int->Int->D)(fa fb:En->Aa D):En->Aa D:=λac =>
 match fa ac,fb ac with
 |some (.int i),some (.int j)=>some (g i j)
 |_,_=>none
def bD(f:En->Aa D):En->Aa D:=λac=>match f ac with
 |some d=>if flat d=true then some d else none
 |none=>none
def fB(f:En->Aa D):En->Aa Bool:=λac=>match f ac with
 |some (.bl b)=>some b
 |_=>none
def dH(f:En->Aa Bool):En->Aa D:=λac=>(f ac).map .bl
def fV(f g:En->Aa Bool):En->Aa Bool:=λac=>match f ac with
 |some true=>g ac
 |some false=>some false
 |none=>none
def fOr(f g:En->Aa Bool):En->Aa Bool:=λac=>match f ac with
 |some false=>g ac
 |some true=>some true
 |none=>none
def cH(f:En->Aa Bool):En->Aa Bool:=λac=>(f ac).map (!·)
def fIf{α:Type}(c:En->Aa Bool)(f g:En->Aa α):En->Aa α:=λac=>match c ac with
 |some true=>f ac
 |some false=>g ac
 |none=>none
def aF:En->Aa (Ab D):=λ_=>some []
def aA(f:En->Aa D)(g:En->Aa (Ab D)):En->Aa (Ab D):=λac=>match f ac,g ac with
 |some d,some ds=>some (d::ds)
 |_,_=>none
def tN(g:En->Aa (Ab D)):En->Aa D:=λac=>match g ac with
 |some ds=>if ds.length<=1000 then some (.tup ds) else none
 |none=>none
def bO(g:En->Aa (Ab D)):En->Aa D:=λac=>match g ac with
 |some ds=>if ds.length<=1000 then some (.lst ds) else none
 |none=>none
def bS{K:Frag}(h:Rep K m H (.int i) v fp):v=.int i:=by simp only[Rep]at h;exact h.1
def fW{K:Frag}(h:Rep K m H (.bl i) v fp):v=.bl i:=by simp only[Rep]at h;exact h.1
def cS{K:Frag}(h:Rep K m H (.str i) v fp):v=.str i:=by simp only[Rep]at h;exact h.1
def lG{K:Frag}(h:Rep K m H .non v fp):v=.non:=by simp only[Rep]at h;exact h.1
def eY{K:Frag}:Rep K m H (.int i) (.int i) []:=by simp only[Rep];exact⟨trivial,trivial⟩
def pW{K:Frag}:Rep K m H (.bl i) (.bl i) []:=by simp only[Rep];exact⟨trivial,trivial⟩
def nU{K:Frag}:Rep K m H (.str i) (.str i) []:=by simp only[Rep];exact⟨trivial,trivial⟩
def pB{K:Frag}:Rep K m H .non .non []:=by simp only[Rep];exact⟨trivial,trivial⟩
def aC(i:Nat){x:Str}(l:X.N[i]?=some x:=by rfl)(a:Vis X.env.scope x:=by first|exact Or.inl rfl|exact Or.inr (Or.inl rfl)|exact Or.inr (Or.inr rfl))(hd:nDb x:=by decide)(f:(x==("__classdict__" : Str))=false:=by decide) :
  QE X false [i] (.Name x ai) (aD i) :=
 .mk (mL l a hd f) λσ H Q ⟨ac,F,d,ok,e,q⟩=>by
  unfold aD at e;cases h1:ac[i]? with
  |none=>rw[h1]at e;cases e
  |some o =>
   cases o with
   |none=>rw[h1]at e;cases e
   |some p =>
    rw[h1]at e;obtain⟨h,d'⟩:=p;have j:d'=d:=QaF e;subst j;obtain⟨v,a,n⟩:=ok i h d' h1;exact⟨v,a,q v H _ (Same.refl H) n ⟨λb hb=>.inr ⟨i,by simp,hb⟩,λz=>(by cases z)⟩⟩
def aE{i:Int}:QE X m rs (.Constant (.int i) j ai) (fC (.int i)):=.mk pe_int λσ H Q ⟨ac,F,d,ok,e,q⟩=>by cases e;exact q _ _ _ (Same.refl H) eY .nil
def oG{i:Bool}:QE X m rs (.Constant (.bool i) j ai) (fC (.bl i)):=.mk Zd6 λσ H Q ⟨ac,F,d,ok,e,q⟩=>by cases e;exact q _ _ _ (Same.refl H) pW .nil
def aI{i:Str}:QE X m rs (.Constant (.str i) j ai) (fC (.str i)):=.mk Z7n λσ H Q ⟨ac,F,d,ok,e,q⟩=>by cases e;exact q _ _ _ (Same.refl H) nU .nil
def oZ{j}:QE X m rs (.Constant .none j ai) (fC .non):=.mk ZbQ λσ H Q ⟨ac,F,d,ok,e,q⟩=>by cases e;exact q _ _ _ (Same.refl H) pB .nil
def vS{x:Str}(a:Gl X x)(b:X.mg x=some (.int i t))(hd:nDb x:=by decide):QE X m rs (.Name x ai) (fC (.int i)) :=
 .mk (sO (v:=.int i) a b ⟨t,rfl⟩ hd) λσ H Q ⟨ac,F,d,ok,e,q⟩=>by cases e;exact q _ _ _ (Same.refl H) eY .nil
def Z9m{x:Str}(a:Gl X x)(b:X.mg x=some (.str i t))(hd:nDb x:=by decide):QE X m rs (.Name x ai) (fC (.str i)) :=
 .mk (sO (v:=.str i) a b ⟨t,rfl⟩ hd) λσ H Q ⟨ac,F,d,ok,e,q⟩=>by cases e;exact q _ _ _ (Same.refl H) nU .nil
theorem QE.weak(h:QE X true [] e f):QE X false rs e f:=.mk h λσ H Q ⟨ac,F,d,ok,e,q⟩ =>
 ⟨ac,F,d,ok,e,λv H' fp s r c=>q v H' fp s (Rep.weak _ _ _ r) ⟨λb hb=>(c.1 b hb).imp id λ⟨r,a,_⟩=>(by simp at a),λz=>(by cases z)⟩⟩
def QE.more(h:QE X false rs e f)(hs:∀r∈rs,r∈rs'):QE X false rs' e f:=.mk h λσ H Q ⟨ac,F,d,ok,e,q⟩ =>
 ⟨ac,F,d,ok,e,λv H' fp s r c=>q v H' fp s r ⟨λb hb=>(c.1 b hb).imp id λ⟨r,a,z⟩=>⟨r,hs r a,z⟩,c.2⟩⟩
def Ro(h:QE X false rs e f)(hs:∀r∈rs,r∈rs':=by simp):QE X false rs' e f:=h.more hs
theorem QE.flat(h:QE X m' rs e f):QE X m rs' e (bD f):=.mk h λσ H Q ⟨ac,F,d,ok,e,q⟩=>by
 unfold bD at e;cases h1:f ac with
 |none=>rw[h1]at e;cases e
 |some d' =>
  rw[h1]at e;by_cases a:PD.flat d'=true
  .simp only[a,Rk]at e;cases e;refine⟨ac,F,_,ok,h1,λv H' fp s r c=>?_⟩;obtain⟨i,b⟩:=Rep.flat _ _ _ a r;exact q v H' [] s (b _) .nil
  .simp only[a]at e;cases e
def two{K:Frag}{R:V->V->Hp->Prop}(ok:EnvOk K H σ ac F)(b:fa ac=some x)(a:fb ac=some y)
  (h:∀v u H' f1 f2,Same H H'->Rep K m1 H' x v f1->Rep K m2 H' y u f2->Cond F H m1 rs1 f1->Cond F H m2 rs2 f2->R v u H'):tD K m1 rs1 fa σ H λv H1=>tD K m2 rs2 fb σ H1 λu H2=>R v u H2 :=
 ⟨ac,F,x,ok,b,λv H1 f1 s1 r1 c1=>⟨ac,F,y,ok.same s1,a,λu H2 f2 s2 r2 c2=>h v u H2 f1 f2 (s1.trans s2) (r1.same s2) r2 c1 (c2.back s1)⟩⟩
variable {m1 m2:Bool}{rs1 rs2:Ab Nat}
def aT{g:Int->Int->Int}(f:OpR X (binaryOp op) (rI C λi j=>.int (g i j)))(h:QE X m1 rs1 a fa)(n:QE X m2 rs2 b fb):QE X m rs (.BinOp a op b ai) (fI2 C (λi j=>.int (g i j)) fa fb) :=
 .mk (pe_op f h n) λσ H Q ⟨ac,F,d,ok,e,q⟩=>by
  unfold fI2 at e;split at e
  .rename_i i j l o;split at e
   .rename_i hc;cases e;refine two ok l o λv u H' f1 f2 s r1 r2 _ _=>?_;rw[bS r1,bS r2];exact⟨i,j,rfl,rfl,hc,q _ _ _ s eY .nil⟩
   .cases e
  .cases e
def bI{g:Int->Int->Int}(h:OpR X (binaryOp op) (rI0 λi j=>.int (g i j)))(l:QE X m1 rs1 a fa)(f:QE X m2 rs2 b fb):QE X m rs (.BinOp a op b ai) (fI0 (λi j=>.int (g i j)) fa fb) :=
 .mk (pe_op h l f) λσ H Q ⟨ac,F,d,ok,e,q⟩=>by
  unfold fI0 at e;split at e
  .rename_i i j o n;cases e;refine two ok o n λv u H' f1 f2 s r1 r2 _ _=>?_;rw[bS r1,bS r2];exact⟨i,j,rfl,rfl,q _ _ _ s eY .nil⟩
  .cases e
def Z47{g:Int->Int->Bool}(f:OpR X (compareOp op) (rI0 λi j=>.bl (g i j)))(h:QE X m1 rs1 a fa)(n:QE X m2 rs2 b fb)(p:behindInMarks op b=false):QE X m rs (.Compare a [op] [b] ai) (fI0 (λi j=>.bl (g i j)) fa fb) :=
 .mk (B3 f h n p) λσ H Q ⟨ac,F,d,ok,e,q⟩=>by
  unfold fI0 at e;split at e
  .rename_i i j l o;cases e;refine two ok l o λv u H' f1 f2 s r1 r2 _ _=>?_;rw[bS r1,bS r2];exact⟨i,j,rfl,rfl,q _ _ _ s pW .nil⟩
  .cases e
def jA(h:QE X m rs e f)(he:∀whole,isTrue e X.env whole=(do let v <- whole;standAt e.pos;holding [v] (truthy v)):=by intro _;rfl):QT X e (fB f) :=
 .mk (ZbK h he) λσ H Q ⟨ac,F,b,ok,e,q⟩=>by
  unfold fB at e;split at e
  .rename_i b' a;cases e;refine⟨ac,F,_,ok,a,λv H' fp s r _=>?_⟩;rw[fW r];exact⟨_,rfl,q H' s⟩
  .cases e
def uO{f:CmpOp}(j:OpR X (compareOp f) r)(l:QE X m1 rs1 a fa)(n:QE X m2 rs2 b fb)(t:behindInMarks f b=false)
  (p:∀ac x y K H v u f1 f2 Q bb,g ac=some bb->fa ac=some x->fb ac=some y->Rep K m1 H x v f1->Rep K m2 H y u f2->K=X.K->Q (V.bl bb) H->r v u H Q) (o:∀ac bb,g ac=some bb->∃x y,fa ac=some x/\fb ac=some y):QT X (.Compare a [f] [b] ai) g :=
 .mk (Z4a j l n t) λσ H Q ⟨ac,F,bb,ok,e,q⟩=>by
  obtain⟨x,y,h,i⟩:=o ac bb e;exact two ok h i λv u H' f1 f2 s r1 r2 _ _=>p ac x y _ H' v u f1 f2 _ bb e h i r1 r2 rfl ⟨_,rfl,q H' s⟩
def fBI(p:Int->Int->Bool)(fa fb:En->Aa D):En->Aa Bool:=λac=>match fa ac,fb ac with
 |some (.int i),some (.int j)=>some (p i j)
 |_,_=>none
def Z7{f:CmpOp}(h:OpR X (compareOp f) (rI0 λi j=>.bl (p i j)))(l:QE X m1 rs1 a fa)(n:QE X m2 rs2 b fb)(o:behindInMarks f b=false):QT X (.Compare a [f] [b] ai) (fBI p fa fb) :=
 uO h l n o (λac x y K H v u f1 f2 Q bb e ea eb r1 r2 _ q=>by
  unfold fBI at e;rw[ea,eb]at e;split at e
  .rename_i i j h1 h2;cases h1;cases h2;cases e;rw[bS r1,bS r2];exact⟨i,j,rfl,rfl,q⟩
  .cases e) λac bb e=>by
  unfold fBI at e;split at e
  .rename_i i j h1 h2;exact⟨_,_,h1,h2⟩
  .cases e
def F6(h:QE X m1 rs1 a fa)(f:QE X m2 rs2 b fb):QT X (.Compare a [.Lt] [b] ai) (fBI (λi j=>decide (i<j)) fa fb):=Z7 Z7p h f (kP _)
def yV(h:QE X m1 rs1 a fa)(f:QE X m2 rs2 b fb):QT X (.Compare a [.Gt] [b] ai) (fBI (λi j=>decide (j<i)) fa fb):=Z7 Zd8 h f (kP _)
def F8(h:QE X m1 rs1 a fa)(f:QE X m2 rs2 b fb):QT X (.Compare a [.GtE] [b] ai) (fBI (λi j=>decide (j<=i)) fa fb):=Z7 Zd9 h f (kP _)
def vE(neg:Bool)(fa:En->Aa D):En->Aa Bool:=λac=>match fa ac with
 |some .non=>some (!neg)
 |some _=>some neg
 |none=>none
def E6{K:Frag}(h:Rep K m H d v fp)(hd:d ≠ .non):v ≠ .non:=by
 cases d with
 |non=>exact absurd rfl hd
 |bl _=>simp only[Rep]at h;rw[h.1];simp
 |int _=>simp only[Rep]at h;rw[h.1];simp
 |str _=>simp only[Rep]at h;rw[h.1];simp
 |tup _=>simp only[Rep]at h;obtain⟨a,vs,e,_⟩:=h;rw[e];simp
 |lst _=>simp only[Rep]at h;obtain⟨a,vs,fp',e,_⟩:=h;rw[e];simp
 |obj _ _ _=>simp only[Rep]at h;obtain⟨a,dx,vs,fp',e,_⟩:=h;rw[e];simp
 |dk _ _=>simp only[Rep]at h;obtain⟨a,vs,fp',e,_⟩:=h;rw[e];simp
 |exc _=>simp only[Rep]at h;obtain⟨a,e,_⟩:=h;rw[e];simp
 |fn _ _ _=>simp only[Rep]at h;rw[h.1];simp
def F7{j pos'}(b:QE X m1 rs1 a fa):QT X (.Compare a [.Is] [.Constant .none j pos'] ai) (vE false fa) :=
 uO ZbX b (m2:=false) (rs2:=[]) oZ (kP _) (λac x y K H v u f1 f2 Q bb e ea eb r1 r2 _ q=>by
  cases eb;refine⟨lG r2,?_⟩;unfold vE at e;rw[ea]at e;cases x with
  |non=>cases e;rw[lG r1];exact q
  |_=>cases e;rw[Rh (E6 r1 (by intro z;cases z))];exact q) λac bb e=>by
  unfold vE at e;cases h:fa ac with
  |none=>rw[h]at e;cases e
  |some x=>exact⟨x,.non,rfl,rfl⟩
def Z6{j pos'}(b:QE X m1 rs1 a fa):QT X (.Compare a [.IsNot] [.Constant .none j pos'] ai) (vE true fa) :=
 uO Z9I b (m2:=false) (rs2:=[]) oZ (kP _) (λac x y K H v u f1 f2 Q bb e ea eb r1 r2 _ q=>by
  cases eb;refine⟨lG r2,?_⟩;unfold vE at e;rw[ea]at e;cases x with
  |non=>cases e;rw[lG r1];exact q
  |_=>cases e;rw[Rh (E6 r1 (by intro z;cases z))];exact q) λac bb e=>by
  unfold vE at e;cases h:fa ac with
  |none=>rw[h]at e;cases e
  |some x=>exact⟨x,.non,rfl,rfl⟩
def iE(b:QT X a ga):QW X (.BoolOp .And [a] ai) ga:=.mk (Z49 b) λσ H Q q=>q
def iM(b:QT X a ga):QW X (.BoolOp .Or [a] ai) ga:=.mk (ZbJ b) λσ H Q q=>q
def iZ(h:QT X a ga)(f:QW X (.BoolOp .And (b::rest) ai) gb):QW X (.BoolOp .And (a::b::rest) ai) (fV ga gb) :=
 .mk (Z79 h f) λσ H Q ⟨ac,F,bb,ok,e,q⟩=>by
  unfold fV at e;split at e
  .rename_i h1;exact⟨ac,F,true,ok,h1,λH' s=>by refine yC ?_;exact⟨ac,F,bb,ok.same s,e,λH2 s2=>q H2 (s.trans s2)⟩⟩
  .rename_i h1;cases e;exact⟨ac,F,false,ok,h1,λH' s=>by refine zX ?_;exact q H' s⟩
  .cases e
def gN(h:QT X a ga)(f:QW X (.BoolOp .Or (b::rest) ai) gb):QW X (.BoolOp .Or (a::b::rest) ai) (fOr ga gb) :=
 .mk (Zd3 h f) λσ H Q ⟨ac,F,bb,ok,e,q⟩=>by
  unfold fOr at e;split at e
  .rename_i h1;exact⟨ac,F,false,ok,h1,λH' s=>by refine zX ?_;exact⟨ac,F,bb,ok.same s,e,λH2 s2=>q H2 (s.trans s2)⟩⟩
  .rename_i h1;cases e;exact⟨ac,F,true,ok,h1,λH' s=>by refine yC ?_;exact q H' s⟩
  .cases e
def mH(b:QT X a ga):QT X (.UnaryOp .Not a ai) (cH ga):=.mk (L2.pt_not b) λσ H Q ⟨ac,F,bb,ok,e,q⟩=>by
 unfold cH at e;cases h:ga ac with
 |none=>rw[h]at e;cases e
 |some b1=>rw[h]at e;cases e;exact⟨ac,F,b1,ok,h,λH' s=>q H' s⟩
def Z01(h:QE X m rs a f):QE X m rs (.BoolOp op [a] ai) f:=.mk (ZbP h) λσ H Q q=>q
def G4(h:QE X m1 rs1 a fa)(f:QE X m2 rs2 (.BoolOp .And (b::rest) ai) fb):QE X m rs (.BoolOp .And (a::b::rest) ai) (dH (fV (fB fa) (fB fb))) :=
 .mk (L2.pe_and h f) λσ H Q ⟨ac,F,d,ok,e,q⟩=>by
  unfold dH fV fB at e;cases h1:fa ac with
  |none=>rw[h1]at e;cases e
  |some x =>
   rw[h1]at e;cases x with
   |bl c =>
    cases c with
    |true =>
     simp only at e;cases h2:fb ac with
     |none=>rw[h2]at e;cases e
     |some y =>
      rw[h2]at e;cases y with
      |bl c2 =>
       cases e;refine⟨ac,F,_,ok,h1,λv H1 f1 s1 r1 _=>?_⟩;rw[fW r1];refine⟨true,rfl,?_⟩;refine yC ?_;refine⟨ac,F,_,ok.same s1,h2,λu H2 f2 s2 r2 _=>?_⟩;rw[fW r2];exact q _ _ _ (s1.trans s2) pW .nil
      |_=>cases e
    |false =>
     cases e;refine⟨ac,F,_,ok,h1,λv H1 f1 s1 r1 _=>?_⟩;rw[fW r1];refine⟨false,rfl,?_⟩;refine zX ?_;exact q _ _ _ s1 pW .nil
   |_=>cases e
def Zd2(h:QE X m1 rs1 a fa)(f:QE X m2 rs2 (.BoolOp .Or (b::rest) ai) fb):QE X m rs (.BoolOp .Or (a::b::rest) ai) (dH (fOr (fB fa) (fB fb))) :=
 .mk (L2.pe_or h f) λσ H Q ⟨ac,F,d,ok,e,q⟩=>by
  unfold dH fOr fB at e;cases h1:fa ac with
  |none=>rw[h1]at e;cases e
  |some x =>
   rw[h1]at e;cases x with
   |bl c =>
    cases c with
    |false =>
     simp only at e;cases h2:fb ac with
     |none=>rw[h2]at e;cases e
     |some y =>
      rw[h2]at e;cases y with
      |bl c2 =>
       cases e;refine⟨ac,F,_,ok,h1,λv H1 f1 s1 r1 _=>?_⟩;rw[fW r1];refine⟨false,rfl,?_⟩;refine zX ?_;refine⟨ac,F,_,ok.same s1,h2,λu H2 f2 s2 r2 _=>?_⟩;rw[fW r2];exact q _ _ _ (s1.trans s2) pW .nil
      |_=>cases e
    |true =>
     cases e;refine⟨ac,F,_,ok,h1,λv H1 f1 s1 r1 _=>?_⟩;rw[fW r1];refine⟨true,rfl,?_⟩;refine yC ?_;exact q _ _ _ s1 pW .nil
   |_=>cases e
def G3(hc:QT X c g)(h:QE X m rs a fa)(f:QE X m rs b fb):QE X m rs (.IfExp c a b ai) (fIf g fa fb) :=
 .mk (L2.pe_ifExp hc h f) λσ H Q ⟨ac,F,d,ok,e,q⟩=>by
  unfold fIf at e;split at e
  .rename_i h1;exact⟨ac,F,true,ok,h1,λH' s=>by refine yC ?_;exact⟨ac,F,d,ok.same s,e,λv H2 fp s2 r c=>q v H2 fp (s.trans s2) r (c.back s)⟩⟩
  .rename_i h1;exact⟨ac,F,false,ok,h1,λH' s=>by refine zX ?_;exact⟨ac,F,d,ok.same s,e,λv H2 fp s2 r c=>q v H2 fp (s.trans s2) r (c.back s)⟩⟩
  .cases e
def aP:QA X m rs [] aF:=λai aa s σ H Q I ⟨ac,F,ds,ok,e,q⟩=>pa_nil ai aa s σ H Q I (by cases e;exact q [] H [] (Same.refl H) (by simp only[Reps];exact⟨trivial,trivial⟩) .nil)
def aB{ga:En->Aa (Ab D)}(j:QE X m rs e f)(l:QA X m rs es ga)(hs:sEa e es X.env:=by rfl):QA X m rs (e::es) (aA f ga) :=
 λai aa s σ H Q I ⟨ac,F,ds,ok,e,q⟩=>pa_cons j l hs ai aa s σ H Q I (by
  unfold aA at e;split at e
  .rename_i d i h1 h2;cases e;refine⟨ac,F,d,ok,h1,λv H1 f1 s1 r1 c1=>⟨ac,F,i,ok.same s1,h2,λvs H2 f2 s2 r2 c2=>q _ H2 (f1++f2) (s1.trans s2) ?_ ?_⟩⟩
   .simp only[Reps];exact⟨v,vs,f1,f2,rfl,rfl,r1.same s2,r2⟩
   .refine⟨λb hb=>(Qaf.mp hb).elim (c1.1 b) ((c2.back s1).1 b),λa=>⟨Qau.mpr ⟨(c1.2 a).1,(c2.2 a).1,λx hx y hy z=>?_⟩,λb hb=>(Qaf.mp hb).elim ((c1.2 a).2 b) (((c2.back s1).2 a).2 b)⟩⟩;obtain⟨o,h⟩:=Rep.dom _ _ _ r1 x hx;rw[z,(c2.2 a).2 y hy]at h;cases h
  .cases e)
end
def nE(h:n<=1000):n<=sizeLine:=Qbh (gD h)
def xW{K:Frag}(hq:H q=none)(h:Reps K m H ds vs fp):Rep K m (upd H q (.tup vs)) (.tup ds) (.ref q) fp:=by
 have a:Same H (upd H q (.tup vs)):=λb o e=>by rw[aY (bL e hq)];exact e
 simp only[Rep];exact⟨q,vs,rfl,SqT.of bC,h.same a⟩
def mP{K:Frag}(hq:H q=none)(h:Reps K m H ds vs fp):Rep K m (upd H q (.lst vs)) (.lst ds) (.ref q) (q::fp):=by
 have a:Same H (upd H q (.lst vs)):=λb o e=>by rw[aY (bL e hq)];exact e
 simp only[Rep];exact⟨q,vs,fp,rfl,h.same a,.inl ⟨rfl,bC⟩⟩
def bV(hq:H q=none):Same H (upd H q o):=λb u e=>by rw[aY (bL e hq)];exact e
def mZ{K:Frag}(s:Same H H')(hq:H' q=none)(r:Reps K m H' ds vs fp)(c:Cond F H m rs fp):Cond F H m rs (q::fp) :=
 ⟨fun b a => (Qab.mp a).elim (fun z => .inl (by rw [z]; exact s.free hq)) (c.1 b),
  λh=>⟨Qav.mpr ⟨λz=>(by obtain⟨o,f⟩:=Reps.dom _ _ _ r q z;rw[hq]at f;cases f),(c.2 h).1⟩,λb a=>(Qab.mp a).elim (λz=>by rw[z];exact s.free hq) ((c.2 h).2 b)⟩⟩
def nS(h:QA X m rs es fs):QE X m rs (.Tuple es x1 ai) (tN fs) :=
 .mk (L2.pe_tup h) λσ H Q ⟨ac,F,d,ok,e,q⟩=>by
  unfold tN at e;split at e
  .rename_i ds h1;split at e
   .rename_i a;cases e;refine⟨ac,F,ds,ok,h1,λvs H' fp s r c=>⟨nE (by rw[r.length];exact a),λp hp=>q _ _ fp (s.trans (bV hp)) (xW hp r) c⟩⟩
   .cases e
  .cases e
def aV(h:QA X m rs es fs):QE X m rs (.List es ai) (bO fs) :=
 .mk (L2.pe_lst h) λσ H Q ⟨ac,F,d,ok,e,q⟩=>by
  unfold bO at e;split at e
  .rename_i ds h1;split at e
   .rename_i a;cases e;refine⟨ac,F,ds,ok,h1,λvs H' fp s r c=>⟨nE (by rw[r.length];exact a),λp hp=>q _ _ (p::fp) (s.trans (bV hp)) (mP hp r) (mZ s hp r c)⟩⟩
   .cases e
  .cases e
def fIx(fa fb:En->Aa D):En->Aa D:=λac=>match fa ac,fb ac with
 |some (.lst ds),some (.int i)=>atI ds i
 |some (.tup ds),some (.int i)=>atI ds i
 |some (.str z),some (.int i)=>if z.length<=1000 then(atI z.cps.toList i).map λc=>.str ⟨#[c]⟩ else none
 |_,_=>none
def Z0T{K:Frag}(r:Reps K m H ds vs fp)(h:atI ds i=some d):∃v f,atI vs i=some v/\Rep K m H d v f/\(∀b∈f,b∈fp)/\(fp.Nodup->f.Nodup):=by
 unfold atI at h ⊢;rw[r.length];cases a:ixN ds.length i with
 |none=>rw[a]at h;cases h
 |some j =>
  rw[a]at h;exact r.get h
def aO(x:QE X m1 rs a fa)(h:QE X m2 rs2 b fb)(hs:xC b:=by exact λ_ _=>rfl):QE X false rs (.Subscript a b ai) (fIx fa fb) :=
 .mk (Z4c Z0j x h hs) λσ H Q ⟨ac,F,d,ok,e,q⟩=>by
  unfold fIx at e;split at e
  .rename_i ds i h1 h2;refine two ok h1 h2 λv u H' f1 f2 s r1 r2 c1 c2=>?_;obtain⟨p,vs,fp',rfl,j,r,o⟩:=cB r1;obtain⟨w,f,l,n,t,_⟩:=Z0T r e;rw[bS r2];exact .inl ⟨p,vs,i,w,rfl,rfl,j,l,q w H' f s (Rep.weak _ _ _ n) ⟨λb h=>c1.1 b (o b (t b h)),λz=>(by cases z)⟩⟩
  .rename_i ds i h1 h2;refine two ok h1 h2 λv u H' f1 f2 s r1 r2 c1 c2=>?_;simp only[Rep]at r1;obtain⟨p,vs,rfl,j,r⟩:=r1;obtain⟨w,f,l,n,t,_⟩:=Z0T r e;rw[bS r2];exact .inr (.inl ⟨p,vs,i,w,rfl,rfl,j,l,q w H' f s (Rep.weak _ _ _ n) ⟨λb h=>c1.1 b (t b h),λz=>(by cases z)⟩⟩)
  .rename_i z i h1 h2;split at e
   .rename_i y;refine two ok h1 h2 λv u H' f1 f2 s r1 r2 c1 c2=>?_;cases hc:atI z.cps.toList i with
    |none=>rw[hc]at e;cases e
    |some ch =>
     rw[hc]at e;cases e;rw[cS r1,bS r2];exact .inr (.inr ⟨z,i,ch,rfl,rfl,nE y,hc,q _ H' [] s nU .nil⟩)
   .cases e
  .cases e
def QO(X:Cx)(e:Aa Ag)(f:En->Aa (Aa Int)):Prop:=PO X e (λσ H Q=>∃ac F o,EnvOk X.K H σ ac F/\f ac=some o/\∀H',Same H H'->Q o H')
def cR:En->Aa (Aa Int):=λ_=>some none
def fP(f:En->Aa D):En->Aa (Aa Int):=λac=>match f ac with
 |some (.int i)=>some (some i)
 |_=>none
def bH:QO X none cR:=λaa s σ H Q I ⟨ac,F,o,ok,e,q⟩=>Z9y aa s σ H Q I (by cases e;exact q H (Same.refl H))
def bA(h:QE X m rs e f):QO X (some e) (fP f):=λaa s σ H Q I ⟨ac,F,o,ok,e,q⟩=>Z9x h aa s σ H Q I (by
 unfold fP at e;split at e
 .rename_i i h1;cases e;refine⟨ac,F,_,ok,h1,λv H' fp s r _=>?_⟩;rw[bS r];exact⟨i,rfl,q H' s⟩
 .cases e)
def cutD(xs:Ab D)(lo hi:Aa Int):Ab D:=(xs.drop (HT.sIx xs.length 0 lo)).take (HT.sIx xs.length xs.length hi-HT.sIx xs.length 0 lo)
theorem Reps.drop{K:Frag}:∀(n:Nat) {ds:Ab D}{vs:Ab V}{fp:Ab Af},Reps K m H ds vs fp->∃f,Reps K m H (ds.drop n) (vs.drop n) f/\(∀b∈f,b∈fp)
 |0,ds,vs,fp,h=>⟨fp,h,λ_ h=>h⟩
 |n+1,[],vs,fp,h=>by simp only[Reps]at h;obtain⟨rfl,rfl⟩:=h;exact⟨[],by simp only[List.drop_nil,Reps];exact⟨trivial,trivial⟩,λ_ h=>h⟩
 |n+1,d::ds,vs,fp,h=>by
  simp only[Reps]at h;obtain⟨v,r,f1,j,rfl,rfl,h1,h2⟩:=h;obtain⟨f,a,i⟩:=Reps.drop n h2;exact⟨f,a,λb hb=>Qae _ (i b hb)⟩
theorem Reps.take{K:Frag}:∀(n:Nat) {ds:Ab D}{vs:Ab V}{fp:Ab Af},Reps K m H ds vs fp->∃f,Reps K m H (ds.take n) (vs.take n) f/\(∀b∈f,b∈fp)
 |0,ds,vs,fp,h=>⟨[],by simp only[List.take_zero,Reps];exact⟨trivial,trivial⟩,λb hb=>(by cases hb)⟩
 |n+1,[],vs,fp,h=>by simp only[Reps]at h;obtain⟨rfl,rfl⟩:=h;exact⟨[],by simp only[List.take_nil,Reps];exact⟨trivial,trivial⟩,λ_ h=>h⟩
 |n+1,d::ds,vs,fp,h=>by
  simp only[Reps]at h;obtain⟨v,r,f1,j,rfl,rfl,h1,h2⟩:=h;obtain⟨f,a,i⟩:=Reps.take n h2;refine⟨f1++f,by simp only[List.take_succ_cons,Reps];exact⟨v,_,f1,f,rfl,rfl,h1,a⟩,λb hb=>?_⟩;rcases Qaf.mp hb with z|z
  .exact Qar _ z
  .exact Qae _ (i b z)
def Reps.cut{K:Frag}(h:Reps K m H ds vs fp)(lo hi:Aa Int):∃f,Reps K m H (cutD ds lo hi) (Z29 vs lo hi) f/\(∀b∈f,b∈fp):=by
 unfold cutD Z29;rw[h.length];obtain⟨f,i,j⟩:=Reps.drop (HT.sIx ds.length 0 lo) h;obtain⟨f',l,a⟩:=Reps.take (HT.sIx ds.length ds.length hi-HT.sIx ds.length 0 lo) i;exact⟨f',l,λb hb=>j b (a b hb)⟩
theorem tE:∀{ds:Ab D},(∀d∈ds,flat d=true)->flats ds=true
 |[],_=>rfl
 |d::ds,h=>by simp only[flats,Qak];exact⟨h d Qag,tE λx hx=>h x (Qaa _ hx)⟩
def fSl(fa:En->Aa D)(fl fh:En->Aa (Aa Int)):En->Aa D:=λac=>match fa ac,fl ac,fh ac with
 |some (.lst ds),some lo,some hi=>if flats ds=true then some (.lst (cutD ds lo hi)) else none
 |some (.tup ds),some lo,some hi=>if flats ds=true/\¬(HT.sIx ds.length 0 lo=0/\HT.sIx ds.length ds.length hi=ds.length) then some (.tup (cutD ds lo hi)) else none
 |_,_,_=>none
def bN{lo hi:Aa Ag}(u:QE X m1 rs1 a fa)(A:QO X lo fl)(y:QO X hi fh):QE X m rs (.Subscript a (.Slice lo hi none p2) ai) (fSl fa fl fh) :=
 .mk (L2.pe_slice (SlR.or Z3M Z6E) u A y) λσ H Q ⟨ac,F,d,ok,e,q⟩=>by
  unfold fSl at e;split at e
  .rename_i ds l h h1 h2 h3;split at e
   .rename_i i;cases e;refine⟨ac,F,_,ok,h1,λv H1 f1 s1 r1 c1=>⟨ac,F,l,ok.same s1,h2,λH2 s2=>⟨ac,F,h,ok.same (s1.trans s2),h3,λH3 s3=>.inl ?_⟩⟩⟩;obtain⟨p,vs,fp',rfl,f,j,w⟩:=cB (r1.same (s2.trans s3));refine⟨p,vs,rfl,f,λp' hp=>?_⟩;obtain⟨x,t⟩:=Reps.flat _ _ _ i j;obtain⟨f',n,r⟩:=Reps.cut (t m) l h;obtain rfl:f'=[]:=List.eq_nil_iff_forall_not_mem.mpr λb hb=>(by cases r b hb);exact q _ _ [p'] (((s1.trans s2).trans s3).trans (bV hp)) (mP hp n) (mZ ((s1.trans s2).trans s3) hp n .nil)
   .cases e
  .rename_i ds l h h1 h2 h3;split at e
   .rename_i i;cases e;refine⟨ac,F,_,ok,h1,λv H1 f1 s1 r1 c1=>⟨ac,F,l,ok.same s1,h2,λH2 s2=>⟨ac,F,h,ok.same (s1.trans s2),h3,λH3 s3=>.inr ?_⟩⟩⟩;have o:=r1.same (s2.trans s3);simp only[Rep]at o;obtain⟨p,vs,rfl,f,j⟩:=o;refine⟨p,vs,rfl,f,by rw[j.length];exact i.2,λp' hp=>?_⟩;obtain⟨x,t⟩:=Reps.flat _ _ _ i.1 j;obtain⟨f',n,r⟩:=Reps.cut (t m) l h;obtain rfl:f'=[]:=List.eq_nil_iff_forall_not_mem.mpr λb hb=>(by cases r b hb);exact q _ _ [] (((s1.trans s2).trans s3).trans (bV hp)) (xW hp n) .nil
   .cases e
  .cases e
def vU{id:String}(hc:CallR X (.builtin id) r)(h:Gl X x)(l:X.mg x=none)(n:bootBuiltins x=some (.builtin id))(f:QA X m1 rs1 (e::es) fs)
  (j:∀ds d vs H fp Q,F' ds=some d->Reps X.K m1 H ds vs fp->(∀v H' f',Same H H'->Rep X.K m H' d v f'->(∀b∈f',H b=none)->f'.Nodup->Q v H')->r vs H Q)
  (i:x ≠ "__name__":=by decide) (a:nDb x:=by decide) (he:sEa e es X.env:=by rfl) (hpl:bTa ai es X.env:=by rfl) :
  QE X m rs (.Call (.Name x p) (e::es) [] ai) (λac=>(fs ac).bind F') :=
 .mk (L2.pe_callB hc h l n f i a he hpl) λσ H Q ⟨ac,F,d,ok,e,q⟩=>by
  cases h1:fs ac with
  |none=>simp only[h1]at e;cases e
  |some ds =>
   simp only[h1]at e;exact⟨ac,F,ds,ok,h1,λvs H' fp s r c=>j ds d vs H' fp Q e r λv H2 f' s2 r2 h2 nd=>q v H2 f' (s.trans s2) r2 ⟨λb hb=>.inl (s.free (h2 b hb)),λ_=>⟨nd,λb hb=>s.free (h2 b hb)⟩⟩⟩
def oE(hc:CallR X (.type T) r)(h:Gl X x)(l:X.mg x=none)(n:bootBuiltins x=some (.type T))(f:QA X m1 rs1 (e::es) fs)
  (j:∀ds d vs H fp Q,F' ds=some d->Reps X.K m1 H ds vs fp->(∀v H' f',Same H H'->Rep X.K m H' d v f'->(∀b∈f',H b=none)->f'.Nodup->Q v H')->r vs H Q)
  (i:x ≠ "__name__":=by decide) (a:nDb x:=by decide) (he:sEa e es X.env:=by rfl) (hpl:bTa ai es X.env:=by rfl) :
  QE X m rs (.Call (.Name x p) (e::es) [] ai) (λac=>(fs ac).bind F') :=
 .mk (L2.pe_callTy hc h l n f i a he hpl) λσ H Q ⟨ac,F,d,ok,e,q⟩=>by
  cases h1:fs ac with
  |none=>simp only[h1]at e;cases e
  |some ds =>
   simp only[h1]at e;exact⟨ac,F,ds,ok,h1,λvs H' fp s r c=>j ds d vs H' fp Q e r λv H2 f' s2 r2 h2 nd=>q v H2 f' (s.trans s2) r2 ⟨λb hb=>.inl (s.free (h2 b hb)),λ_=>⟨nd,λb hb=>s.free (h2 b hb)⟩⟩⟩
def kC{K:Frag}(h:Reps K m H [d] vs fp):∃v,vs=[v]/\Rep K m H d v fp:=by
 simp only[Reps]at h;obtain⟨v,r,f1,a,rfl,rfl,h1,rfl,rfl⟩:=h;exact⟨v,rfl,by simpa using h1⟩
def ZaM{K:Frag}(h:Reps K m H [d,d'] vs fp):∃v a f f',vs=[v,a]/\Rep K m H d v f/\Rep K m H d' a f'/\fp=f++f':=by
 simp only[Reps]at h;obtain⟨v,r,f1,j,rfl,rfl,h1,a,i,f3,b,rfl,rfl,h2,rfl,rfl⟩:=h;exact⟨v,a,f1,f3,rfl,h1,h2,by simp⟩
def bF:Ab D->Aa D
 |[.lst ds]=>some (.int ds.length)
 |[.tup ds]=>some (.int ds.length)
 |[.str z]=>if z.length<=1000 then some (.int z.length) else none
 |_=>none
def bQ{p:Pos}(n:Gl X "len")(t:X.mg "len" = none)(j:QE X m1 rs1 a fa)(he:starEach [a] X.env=(false,eval a X.env)::starEach [] X.env:=by rfl)(hpl:(backTo ai (starEach [] X.env)).any (·.1)=false:=by rfl) :
  QE X m rs (.Call (.Name "len" p) [a] [] ai) (λac=>(aA fa aF ac).bind bF) :=
 vU (call_len_seq.or Z0N) n t PySem.boot_len (aB j aP he) (λds d vs H fp Q e r q=>by
  unfold bF at e;split at e
  .cases e;obtain⟨v,rfl,f⟩:=kC r;obtain⟨p,ws,fp',rfl,h,i,l⟩:=cB f;exact .inl ⟨p,ws,rfl,.inl h,by rw[i.length];exact q _ _ [] (Same.refl H) eY (λb hb=>(by cases hb)) QaD⟩
  .cases e;obtain⟨v,rfl,f⟩:=kC r;simp only[Rep]at f;obtain⟨p,ws,rfl,h,i⟩:=f;exact .inl ⟨p,ws,rfl,.inr h,by rw[i.length];exact q _ _ [] (Same.refl H) eY (λb hb=>(by cases hb)) QaD⟩
  .split at e
   .rename_i o;cases e;obtain⟨v,rfl,f⟩:=kC r;rw[cS f];exact .inr ⟨_,rfl,nE o,q _ _ [] (Same.refl H) eY (λb hb=>(by cases hb)) QaD⟩
   .cases e
  .cases e) (he:=he) (hpl:=hpl)
def W5:Ab D->Aa D
 |[.lst ds]=>if flats ds=true then some (.lst ds) else none
 |[.tup ds]=>if flats ds=true then some (.lst ds) else none
 |_=>none
def boot_list:bootBuiltins "list" = some (.type "list"):=by decide +kernel
def N6:bootBuiltins "tuple" = some (.type "tuple"):=by decide +kernel
def Z2k:bootBuiltins "int" = some (.type "int"):=by decide +kernel
def Z8k:bootBuiltins "max" = some (.builtin "max"):=by decide +kernel
def Z9l{p:Pos}(x:Gl X "list")(y:X.mg "list" = none)(t:QE X m1 rs1 a fa)(he:starEach [a] X.env=(false,eval a X.env)::starEach [] X.env:=by rfl)(hpl:(backTo ai (starEach [] X.env)).any (·.1)=false:=by rfl) :
  QE X m rs (.Call (.Name "list" p) [a] [] ai) (λac=>(aA fa aF ac).bind W5) :=
 oE Z0M x y boot_list (aB t aP he) (λds d vs H fp Q e r q=>by
  have A:∀{xs:Ab D}{ws:Ab V}{f:Ab Af}{l:Af},flats xs=true->Reps X.K m1 H xs ws f->H l=none->Q (.ref l) (upd H l (.lst ws))->True:=λ_ _ _ _=>trivial;unfold W5 at e;split at e
  .split at e
   .rename_i n;cases e;obtain⟨v,rfl,i⟩:=kC r;obtain⟨p,ws,fp',rfl,h,o,u⟩:=cB i;refine⟨p,ws,rfl,.inl h,λl hl=>?_⟩;obtain⟨w,j⟩:=Reps.flat _ _ _ n o;exact q _ _ [l] (bV hl) (mP hl (j m)) (λb hb=>by simp at hb;rw[hb];exact hl) (by simp)
   .cases e
  .split at e
   .rename_i n;cases e;obtain⟨v,rfl,i⟩:=kC r;simp only[Rep]at i;obtain⟨p,ws,rfl,h,o⟩:=i;refine⟨p,ws,rfl,.inr h,λl hl=>?_⟩;obtain⟨w,j⟩:=Reps.flat _ _ _ n o;exact q _ _ [l] (bV hl) (mP hl (j m)) (λb hb=>by simp at hb;rw[hb];exact hl) (by simp)
   .cases e
  .cases e) (he:=he) (hpl:=hpl)
def nA:Ab D->Aa D
 |[.lst ds]=>if flats ds=true then some (.tup ds) else none
 |[.tup ds]=>if flats ds=true then some (.tup ds) else none
 |_=>none
def G2{p:Pos}(w:Gl X "tuple")(y:X.mg "tuple" = none)(o:QE X m1 rs1 a fa)(he:starEach [a] X.env=(false,eval a X.env)::starEach [] X.env:=by rfl)(hpl:(backTo ai (starEach [] X.env)).any (·.1)=false:=by rfl) :
  QE X m rs (.Call (.Name "tuple" p) [a] [] ai) (λac=>(aA fa aF ac).bind nA) :=
 oE uC w y N6 (aB o aP he) (λds d vs H fp Q e r q=>by
  unfold nA at e;split at e
  .split at e
   .rename_i j;cases e;obtain⟨v,rfl,h⟩:=kC r;obtain⟨p,ws,fp',rfl,f,n,t⟩:=cB h;refine⟨p,ws,rfl,.inl ⟨f,λl hl=>?_⟩⟩;obtain⟨u,i⟩:=Reps.flat _ _ _ j n;exact q _ _ [] (bV hl) (xW hl (i m)) (λb hb=>(by cases hb)) QaD
   .cases e
  .split at e
   .rename_i j;cases e;obtain⟨v,rfl,h⟩:=kC r;have x:=h;simp only[Rep]at h;obtain⟨p,ws,rfl,f,n⟩:=h;obtain⟨u,i⟩:=Rep.flat _ _ _ (by simpa only [PD.flat]using j) x;exact⟨p,ws,rfl,.inr ⟨f,q _ _ [] (Same.refl H) (i m) (λb hb=>(by cases hb)) QaD⟩⟩
   .cases e
  .cases e) (he:=he) (hpl:=hpl)
def Z6g:Ab D->Aa D
 |[.int i,.int j]=>some (.int (if j > i then j else i))
 |_=>none
def Z2U{p:Pos}(h:X.calm=true)(n:Gl X "max")(u:X.mg "max" = none)(l:QA X m1 rs1 [a,b] fs)(he:starEach [a,b] X.env=(false,eval a X.env)::starEach [b] X.env:=by rfl)(hpl:(backTo ai (starEach [b] X.env)).any (·.1)=false:=by rfl) :
  QE X m rs (.Call (.Name "max" p) [a,b] [] ai) (λac=>(fs ac).bind Z6g) :=
 vU (Z62 h) n u Z8k l (λds d vs H fp Q e r q=>by
  unfold Z6g at e;split at e
  .rename_i i j;cases e;obtain⟨v,w,f,f',rfl,t,o,rfl⟩:=ZaM r;rw[bS t,bS o];exact⟨i,j,rfl,q _ _ [] (Same.refl H) eY (λb hb=>(by cases hb)) QaD⟩
  .cases e) (he:=he) (hpl:=hpl)
def oV:Ab D->Aa D
 |[.int i]=>some (.int i)
 |[.bl k]=>some (.int (if k then 1 else 0))
 |_=>none
def jC{p:Pos}(i:Gl X "int")(j:X.mg "int" = none)(h:QE X m1 rs1 a fa)(he:starEach [a] X.env=(false,eval a X.env)::starEach [] X.env:=by rfl)(hpl:(backTo ai (starEach [] X.env)).any (·.1)=false:=by rfl) :
  QE X m rs (.Call (.Name "int" p) [a] [] ai) (λac=>(aA fa aF ac).bind oV) :=
 oE Z64 i j Z2k (aB h aP he) (λds d vs H fp Q e r q=>by
  unfold oV at e;split at e
  .cases e;obtain⟨v,rfl,f⟩:=kC r;rw[bS f];exact .inl ⟨_,rfl,q _ _ [] (Same.refl H) eY (λb hb=>(by cases hb)) QaD⟩
  .cases e;obtain⟨v,rfl,f⟩:=kC r;rw[fW f];exact .inr ⟨_,rfl,q _ _ [] (Same.refl H) eY (λb hb=>(by cases hb)) QaD⟩
  .cases e) (he:=he) (hpl:=hpl)
section
variable {X:Cx}{m m1:Bool}{rs rs1:Ab Nat}{e a b c:Ag}{es:Ab Ag}{f fa fc:En->Aa D}{fs:En->Aa (Ab D)}{ai p:Pos}
def spD(K:Frag)(n:Nat)(f:Ab D->Aa D):Sp:=λvs H Q _=>∃ds d fp,ds.length=n/\Reps K false H ds vs fp/\f ds=some d/\∀v H' fp',Same H H'->Rep K true H' d v fp'->(∀b∈fp',H b=none)->fp'.Nodup->Q v H'
def Z8O{K:Frag}{n:Nat}{f:Ab D->Aa D}{vs:Ab V}{H:Hp}{Q:VK}{E:XK}(h:spD K n f vs H Q E):vs.length=n:=by
 obtain⟨ds,d,fp,h1,h2,_⟩:=h;rw[h2.length,h1]
def Z9q(G:jK X.prog X.w X.K X.mg X.base CX0 k fA fd ps (spD X.K n F'))(t:Room k X.A)(l:Gl X x)(u:X.mg x=some (.ref fA))(i:keepIn X.K (.ref fA)=true)
  (a:Binds X.K fd ps ds) (hd:Vals dvs ds) (f:∀H,Reps X.K false H dds dvs []) (j:QA X m1 rs1 (e::es) fs) (o:∀ac xs,fs ac=some xs->xs.length+dds.length=n)
  (h:nDb x:=by decide) (he:sEa e es X.env:=by rfl) (hpl:bTa ai es X.env:=by rfl) :
  QE X true [] (.Call (.Name x p) (e::es) [] ai) (λac=>(fs ac).bind λxs=>F' (xs++dds)) :=
 .mk (L2.pe_call G t l u i a hd Z1y j h he hpl) λσ H Q ⟨ac,F,d,ok,e,q⟩=>by
  cases h1:fs ac with
  |none=>simp only[h1]at e;cases e
  |some xs =>
   simp only[h1]at e;refine⟨ac,F,xs,ok,h1,λvs H' fp s r c=>⟨xs++dds,d,fp++[],by rw[Qaj];exact o ac xs h1,(Reps.weak _ _ _ r).append (f H'),e,λv H2 fp' s2 r2 h2 nd=>q v H2 fp' (s.trans s2) r2 ⟨λb a=>.inl (s.free (h2 b a)),λ_=>⟨nd,λb a=>s.free (h2 b a)⟩⟩⟩⟩
theorem C3{K:Frag}{H:Hp}{nm:Str}:∀{ns:Ab Str}{ds:Ab D}{vs:Ab V}{fp:Ab Af}{d:D},Reps K m H ds vs fp->(ns.zip ds).lookup nm=some d->∃v f,(ns.zip vs).lookup nm=some v/\Rep K m H d v f/\∀b∈f,b∈fp
 |[],ds,vs,fp,d,r,e=>by cases e
 |n::ns,[],vs,fp,d,r,e=>by cases e
 |n::ns,d'::ds,vs,fp,d,r,e=>by
  simp only[Reps]at r;obtain⟨v,l,f1,j,rfl,rfl,h1,h2⟩:=r;simp only[Qba,QaB]at e ⊢;cases hq:nm==n with
  |true =>
   rw[hq]at e;cases e;exact⟨v,f1,rfl,h1,λb hb=>Qar _ hb⟩
  |false =>
   rw[hq]at e;obtain⟨w,f,i,h,a⟩:=C3 h2 e;exact⟨w,f,i,h,λb hb=>Qae _ (a b hb)⟩
def cZ(C:Af)(nm:Str)(fa:En->Aa D):En->Aa D:=λac=>match fa ac with
 |some (.obj C' ns ds)=>if C'=C then(ns.zip ds).lookup nm else none
 |_=>none
def cG(hc:Cls X.K C)(l:NoAttr X.K C nm)(j:QE X m1 rs a fa)(h:attributeBase a nm X.env (eval a X.env)=eval a X.env:=by rfl):QE X false rs (.Attribute a nm ai) (cZ C nm fa) :=
 .mk (ZbS j h) λσ H Q ⟨ac,F,d,ok,e,q⟩=>by
  unfold cZ at e;split at e
  .rename_i x ns ds h1;split at e
   .rename_i t;subst t;refine⟨ac,F,_,ok,h1,λv H' fp s r c=>?_⟩;simp only[Rep]at r;obtain⟨o,dx,vs,fp',rfl,rfl,h2,_,h3,p⟩:=r;obtain⟨w,f,n,u,i⟩:=C3 p e;exact⟨o,x,dx,_,w,rfl,h2,hc,l,n,q w H' f s (Rep.weak _ _ _ u) ⟨λb h=>c.1 b (Qaa _ (Qaa _ (i b h))),λz=>(by cases z)⟩⟩
   .cases e
  .cases e
def zM(K:Frag)(J:It)(H0:Hp)(ds:Ab D)(fp:Ab Af):Prop:=∀H,Kp fp H0 H->∀i,
 (∀d,ds[i]?=some d->J.go i H/\∀x H',J.yld i H x H'->Same H H'/\∃f,Rep K false H' d x f/\∀b∈f,b∈fp)/\(ds.length<=i->J.stop i H)
def tDI(K:Frag)(rs:Ab Nat)(f:En->Aa (Ab D)):TI:=λσ H R=>∃ac F ds,EnvOk K H σ ac F/\f ac=some ds/\∀J H' fp,Same H H'->zM K J H' ds fp->(∀b∈fp,∃o,H' b=some o)->Cond F H false rs fp->R J H'
def QI(X:Cx)(tg:Ag)(rs:Ab Nat)(iter:Ag)(f:En->Aa (Ab D)):Prop:=PI X tg iter (tDI X.K rs f)
def QI.mk{tg iter:Ag}{a:TI}{f:En->Aa (Ab D)}(h:PI X tg iter a)(hi:∀σ H R,tDI X.K rs f σ H R->a σ H R):QI X tg rs iter f:=λaa s σ H R I q=>h aa s σ H R I (hi σ H R q)
def PI.or(h1:PI X tg iter w1)(h2:PI X tg iter w2):PI X tg iter (λσ H R=>w1 σ H R\/w2 σ H R):=λaa s σ H R I q=>q.elim (h1 aa s σ H R I) (h2 aa s σ H R I)
def Z3j{K:Frag}{H0:Hp}{ds:Ab D}{a:Af}{fp:Ab Af}(r:Rep K false H0 (.lst ds) (.ref a) fp):zM K (Itl K a) H0 ds fp:=λH k i=>by
 have n:=Rep.keep _ _ _ k r;obtain⟨p,vs,fp',e,h,l,j⟩:=cB n;cases e;refine⟨λd hd=>?_,λo=>⟨vs,h,by rw[l.length];exact o⟩⟩;obtain⟨v,f,h1,h2,h3,_⟩:=l.get hd;refine⟨⟨vs,v,h,h1⟩,λx H' y=>?_⟩;obtain⟨rfl,y⟩:=y;have:=y vs h;rw[h1]at this;cases this;exact⟨Same.refl _,f,h2,λb hb=>j b (h3 b hb)⟩
def Z5S{K:Frag}{H0:Hp}{ds:Ab D}{a:Af}{fp:Ab Af}(r:Rep K false H0 (.tup ds) (.ref a) fp):zM K (Itt K a) H0 ds fp:=λH k i=>by
 have h:=Rep.keep _ _ _ k r;simp only[Rep]at h;obtain⟨p,vs,e,b,j⟩:=h;cases e;refine⟨λd hd=>?_,λl=>⟨vs,b,by rw[j.length];exact l⟩⟩;obtain⟨v,f,h1,h2,h3,_⟩:=j.get hd;refine⟨⟨vs,v,b,h1⟩,λx H' y=>?_⟩;obtain⟨rfl,y⟩:=y;have:=y vs b;rw[h1]at this;cases this;exact⟨Same.refl _,f,h2,h3⟩
def Z3k{K:Frag}{H0:Hp}{ds:Ab D}{a:Af}{fp:Ab Af}(r:Rep K false H0 (.lst ds) (.ref a) fp):zM K (Ite K a) H0 (ds.mapIdx λi d=>.tup [.int i,d]) fp:=λH k i=>by
 have o:=Rep.keep _ _ _ k r;obtain⟨p,vs,fp',e,h,n,l⟩:=cB o;cases e;refine⟨λd hd=>?_,λt=>⟨vs,h,by rw[n.length];simpa using t⟩⟩;rw[List.getElem?_mapIdx]at hd;cases j:ds[i]? with
 |none=>rw[j]at hd;cases hd
 |some d' =>
  rw[j]at hd;cases hd;obtain⟨v,f,h1,h2,h3,_⟩:=n.get j;refine⟨⟨vs,v,h,h1⟩,λx H' y=>?_⟩;obtain⟨q,w,hq,rfl,y,rfl⟩:=y;have:=y vs h;rw[h1]at this;cases this;refine⟨bV hq,f,xW hq ?_,λb hb=>l b (h3 b hb)⟩;simp only[Reps];exact⟨.int i,[v],[],f,rfl,rfl,eY,v,[],f,[],rfl,by simp,h2,rfl,rfl⟩
def Z1P{K:Frag}{H0:Hp}(lo:Int)(n:Nat):zM K (Itr lo n) H0 ((List.range n).map λ(k:Nat)=>.int (lo+(k:Int))) []:=λH k i=>by
 refine⟨λd hd=>?_,λh=>(show n<=i by simpa using h)⟩;rw[Qax]at hd;cases a:(List.range n)[i]? with
 |none=>rw[a]at hd;cases hd
 |some j =>
  rw[a]at hd;cases hd;obtain⟨f,e⟩:=Qah.mp a;rw[List.getElem_range]at e;subst e;refine⟨(show i<n by simpa using f),λx H' y=>?_⟩;obtain⟨rfl,rfl⟩:=y;exact⟨Same.refl _,[],eY,λb hb=>hb⟩
def dZ(fa:En->Aa D):En->Aa (Ab D):=λac=>match fa ac with
 |some (.lst ds)=>some ds
 |some (.tup ds)=>some ds
 |_=>none
def cO{tg:Ag}(h:QE X m1 rs a fa):QI X tg rs a (dZ fa) :=
 .mk (PI.or (Z9A h) (ZbN h)) λσ H R ⟨ac,F,ds,ok,e,q⟩=>by
  unfold dZ at e;split at e
  .rename_i i h1;cases e;refine .inl ⟨ac,F,_,ok,h1,λv H' fp s r c=>?_⟩;have f:=Rep.weak _ _ _ r;obtain⟨p,vs,fp',rfl,b,n,l⟩:=cB r;exact⟨p,rfl,⟨vs,b⟩,q _ H' fp s (Z3j f) (Rep.dom _ _ _ r) ⟨c.1,λz=>(by cases z)⟩⟩
  .rename_i i h1;cases e;refine .inr ⟨ac,F,_,ok,h1,λv H' fp s r c=>?_⟩;have f:=Rep.weak _ _ _ r;have j:=r;simp only[Rep]at j;obtain⟨p,vs,rfl,b,n⟩:=j;exact⟨p,rfl,⟨vs,b⟩,q _ H' fp s (Z5S f) (Rep.dom _ _ _ r) ⟨c.1,λz=>(by cases z)⟩⟩
  .cases e
def nB:Ab D->Aa (Ab D)
 |[.int j]=>if -(2^62)<=j/\j<2^62 then some ((List.range j.toNat).map λ(k:Nat)=>.int (0+(k:Int))) else none
 |_=>none
def gH{tg:Ag}{p:Pos}(i:Gl X "range")(n:X.mg "range" = none)(h:QA X m1 rs1 [a] fs)(hs:starEach [a] X.env=[(false,eval a X.env)]:=by rfl):QI X tg rs (.Call (.Name "range" p) [a] [] ai) (λac=>(fs ac).bind nB) :=
 .mk (Z5r i n h hs) λσ H R ⟨ac,F,ds,ok,e,q⟩=>by
  cases h1:fs ac with
  |none=>simp only[h1]at e;cases e
  |some xs =>
   simp only[h1,Qa8]at e;unfold nB at e;split at e
   .rename_i j;split at e
    .rename_i f;cases e;refine⟨ac,F,_,ok,h1,λvs H' fp s r c=>?_⟩;obtain⟨v,rfl,l⟩:=kC r;rw[bS l];exact⟨j,rfl,f.1,f.2,q _ H' [] s (Z1P 0 _) (λb hb=>(by cases hb)) .nil⟩
    .cases e
   .cases e
def Z2t:Ab D->Aa (Ab D)
 |[.lst ds]=>some (ds.mapIdx λi d=>.tup [.int i,d])
 |_=>none
def Z42{elts:Ab Ag}{k1:Nat}{tpos p:Pos}(n:Gl X "enumerate")(o:X.mg "enumerate" = none)(h:QA X m1 rs [a] fs)(hs:starEach [a] X.env=[(false,eval a X.env)]:=by rfl):QI X (.Tuple elts k1 tpos) rs (.Call (.Name "enumerate" p) [a] [] ai) (λac=>(fs ac).bind Z2t) :=
 .mk (Z9B n o h hs) λσ H R ⟨ac,F,ds,ok,e,q⟩=>by
  cases h1:fs ac with
  |none=>simp only[h1]at e;cases e
  |some xs =>
   simp only[h1,Qa8]at e;unfold Z2t at e;split at e
   .cases e;refine⟨ac,F,_,ok,h1,λvs H' fp s r c=>?_⟩;obtain⟨v,rfl,b⟩:=kC r;have i:=Rep.weak _ _ _ b;have j:=Rep.dom _ _ _ b;obtain⟨p,ws,fp',rfl,f,t,l⟩:=cB b;exact⟨p,rfl,⟨ws,f⟩,q _ H' fp s (Z3k i) j ⟨c.1,λz=>(by cases z)⟩⟩
   .cases e
def dQ(fc:En->Aa Bool)(fe:En->Aa D)(ac:En):Ab D->Aa (Ab D)
 |[]=>some []
 |d::r=>match fc (some (false,d)::ac) with
  |some true=>match fe (some (false,d)::ac),dQ fc fe ac r with
   |some y,some ys=>some (y::ys)
   |_,_=>none
  |some false=>dQ fc fe ac r
  |none=>none
def qH(fr:Ab Nat)(ac:En):En:=fr.map λj=>(ac[j]?).join
def cX(fr:Ab Nat)(src:En->Aa (Ab D))(fc:En->Aa Bool)(fe:En->Aa D):En->Aa D:=λac=>match src ac with
 |some ds=>if ds.length<=1000 then(dQ fc fe (qH fr ac) ds).map .lst else none
 |none=>none
def fTT:En->Aa Bool:=λ_=>some true
theorem pO{fc:En->Aa Bool}{fe:En->Aa D}{ac:En}:∀{ds:Ab D}{ys:Ab D}{i:Nat}{d:D}{zs:Ab D},ds[i]?=some d->dQ fc fe ac ds=some ys->dQ fc fe ac (ds.take i)=some zs ->
  (fc (some (false,d)::ac)=some true/\∃y,fe (some (false,d)::ac)=some y/\dQ fc fe ac (ds.take (i+1))=some (zs++[y]))\/(fc (some (false,d)::ac)=some false/\dQ fc fe ac (ds.take (i+1))=some zs)
 |[],ys,i,d,zs,h,_,_=>by simp at h
 |d'::ds,ys,0,d,zs,h,h1,h2=>by
  simp at h;subst h;simp only[List.take_zero,dQ]at h2;cases h2;unfold dQ at h1;simp only[Qbo,List.take_succ_cons,List.take_zero,dQ];split at h1
  .rename_i hc;split at h1
   .rename_i y n f o;exact .inl ⟨hc,y,f,by simp[hc,f]⟩
   .cases h1
  .rename_i hc;exact .inr ⟨hc,by simp[hc]⟩
  .cases h1
 |d'::ds,ys,i+1,d,zs,h,h1,h2=>by
  have h':ds[i]?=some d:=by simpa using h
  unfold dQ at h1;simp only[List.take_succ_cons]at h2 ⊢;unfold dQ at h2;split at h1
  .rename_i hc;split at h1
   .rename_i y n f o;simp only[hc,f]at h2;cases h3:dQ fc fe ac (ds.take i) with
    |none=>rw[h3]at h2;cases h2
    |some z' =>
     rw[h3]at h2;cases h2;rcases pO h' o h3 with⟨a,l,b,j⟩|⟨a,b⟩
     .exact .inl ⟨a,l,b,by unfold dQ;simp[hc,f,j]⟩
     .exact .inr ⟨a,by unfold dQ;simp[hc,f,b]⟩
   .cases h1
  .rename_i hc;simp only[hc]at h2;rcases pO h' h1 h2 with⟨a,l,b,j⟩|⟨a,b⟩
   .exact .inl ⟨a,l,b,by unfold dQ;simp[hc,j]⟩
   .exact .inr ⟨a,by unfold dQ;simp[hc,b]⟩
  .cases h1
theorem tK{fc:En->Aa Bool}{fe:En->Aa D}{ac:En}:∀{ds ys:Ab D},dQ fc fe ac ds=some ys->ys.length<=ds.length
 |[],ys,h=>by simp only[dQ]at h;cases h;exact Qap _
 |d::ds,ys,h=>by
  unfold dQ at h;split at h
  .split at h
   .rename_i y b f a;cases h;simp only[Qai];exact Nat.succ_le_succ (tK a)
   .cases h
  .exact Nat.le_succ_of_le (tK h)
  .cases h
end
def Z22{K:Frag}{H:Hp}{σ:L2.St}{ac:En}{F:Nat->Ab Af}{fr:Ab Nat}{d:D}{v:V}{f:Ab Af}(ok:EnvOk K H σ ac F)(r:Rep K false H d v f) :
  ∃F',EnvOk K H ((kB 1 fr σ).set 0 (some v)) (some (false,d)::qH fr ac) F':=by
 refine⟨λi=>match i with|0=>f|i+1=>F (fr.getD i 0),λi o d' e=>?_⟩
 cases i with
 |zero =>
  simp at e;obtain⟨_,rfl⟩:=e;exact⟨v,by simp[kB],r⟩
 |succ i =>
  simp only[List.getElem?_cons_succ,qH,Qax]at e;cases a:fr[i]? with
  |none=>rw[a]at e;cases e
  |some j =>
   rw[a]at e;simp only[QaK,QaO]at e;cases hq:ac[j]? with
   |none=>rw[hq]at e;cases e
   |some s =>
    rw[hq]at e;simp only[Option.join_some]at e;subst e;obtain⟨w,h1,h2⟩:=ok j o d' hq;refine⟨w,?_,?_⟩
    .simp[kB,a,h1]
    .have:fr.getD i 0=j:=by simp[List.getD,a]
     simp only[this];exact h2
def QTs(X:Cx)(ifs:Ab Ag)(f:En->Aa Bool):Prop:=PTs X ifs (tDT X.K f)
def dJ:QTs X [] fTT:=λaa s σ H Q I ⟨ac,F,b,ok,e,q⟩=>Z9t aa s σ H Q I (by cases e;exact q H (Same.refl H))
def sK(h:QT X c g):QTs X [c] g:=λaa s σ H Q I q=>Z9s h aa s σ H Q I q
def tJ{K:Frag}{σ:L2.St}{H:Hp}{Q:VK}(h:tD K true [] (cX fr src fc fe) σ H Q) :
  C7 (tDI K rs src) 1 fr (zD 0) (tDT K fc) (tD K true [] fe) σ H Q:=by
 obtain⟨ac,F,d,ok,e,q⟩:=h;unfold cX at e;cases h1:src ac with
 |none=>rw[h1]at e;cases e
 |some ds =>
  rw[h1]at e;simp only at e;split at e
  .rename_i L;cases h2:dQ fc fe (qH fr ac) ds with
   |none=>rw[h2]at e;cases e
   |some ys =>
    rw[h2]at e;cases e;refine⟨ac,F,ds,ok,h1,λJ H1 fp s1 gv dm cd=>?_⟩;intro j p;refine⟨λi k vs H2=>i<=ds.length/\k=ds.length-i/\H2 j=some (.lst vs)/\Same H1 H2/\∃zs f,dQ fc fe (qH fr ac) (ds.take i)=some zs/\Reps K true H2 zs vs f/\f.Nodup/\(∀b∈f,H1 b=none)/\j∉f,
     ⟨ds.length,QaY _,rfl,bC,bV p,[],[],by simp[dQ],by simp only[Reps];exact⟨trivial,trivial⟩,QaD,λb n=>(by cases n),by simp⟩,?_⟩
    rintro i k vs H2 ⟨hi,hk,ha,sm,zs,f,hz,hr,nd,hfr,hna⟩;refine⟨ha,?_⟩;have G:=gv H2 (Kp.same sm fp) i;by_cases u:i<ds.length
    .right;have hd:ds[i]?=some ds[i]:=Qam u;obtain⟨T,O⟩:=G.1 _ hd;refine⟨T,λx H3 y3=>?_⟩;obtain⟨l,f3,R,_⟩:=O x H3 y3;refine⟨⟨by simp[kB],by simp[kB]⟩,?_⟩;have C:EnvOk K H3 σ ac F:=ok.same ((s1.trans sm).trans l);obtain⟨F',r⟩:=Z22 (fr:=fr) C R;rcases pO hd h2 hz with⟨c1,I,c2,P⟩|⟨c1,c2⟩
     .refine⟨_,F',true,r,c1,λH4 s4=>yC ⟨_,F',I,r.same s4,c2,λv H5 fp5 s5 r5 c5=>?_⟩⟩;have t:Same H2 H5:=(l.trans s4).trans s5;have W:Same H4 H5:=s5;have w:H5 j=some (.lst vs):=t _ _ ha;have y:j∉fp5:=λz=>by
       have:=(c5.2 rfl).2 j z;rw[(l.trans s4) _ _ ha]at this;cases this
      have U:vs.length<1000:=by
       have:=tK hz;have X:=hr.length;rw[QaV]at this;omega
      refine⟨vs,w,gD (Qbh U),ds.length-(i+1),by omega,u,rfl,bC,?_,zs++[I],f++fp5,P,?_,?_,?_,?_⟩
      .intro b o n;have E:b≠j:=bL n p;rw[aY E];exact t _ _ (sm _ _ n)
      .have N:=Reps.keep _ _ _ (Kp.upd (o':=.lst (vs++[v])) w (by intro xs z;cases z) (by intro a b z;cases z) hna) (hr.same t);have S:=Rep.keep _ _ _ (Kp.upd (o':=.lst (vs++[v])) w (by intro xs z;cases z) (by intro a b z;cases z) y) r5;exact N.snoc S
      .refine Qau.mpr ⟨nd,(c5.2 rfl).1,λa ha' b n z=>?_⟩;obtain⟨o,M⟩:=Reps.dom _ _ _ hr a ha';have:=(c5.2 rfl).2 b n;rw[<- z,(l.trans s4) _ _ M]at this;cases this
      .intro b n;rcases Qaf.mp n with z|z
       .exact hfr b z
       .exact((sm.trans l).trans s4).free ((c5.2 rfl).2 b z)
      .intro z;rcases Qaf.mp z with z|z
       .exact hna z
       .exact y z
     .refine⟨_,F',false,r,c1,λH4 s4=>zX ⟨ds.length-(i+1),vs,by omega,u,rfl,(l.trans s4) _ _ ha,(sm.trans l).trans s4,zs,f,c2,hr.same (l.trans s4),nd,hfr,hna⟩⟩
    .left;have B:i=ds.length:=by omega
     refine⟨G.2 (by omega),?_⟩;have A:dQ fc fe (qH fr ac) ds=some zs:=by rw[B,Qa0]at hz;exact hz
     rw[h2]at A;cases A;refine q _ H2 (j::f) (s1.trans sm) ?_ ⟨λb n=>?_,λ_=>⟨Qav.mpr ⟨hna,nd⟩,λb n=>?_⟩⟩
     .simp only[Rep];exact⟨j,vs,f,rfl,hr,.inl ⟨rfl,ha⟩⟩
     .rcases Qab.mp n with z|z
      .exact .inl (by rw[z];exact s1.free p)
      .exact .inl (s1.free (hfr b z))
     .rcases Qab.mp n with z|z
      .rw[z];exact s1.free p
      .exact s1.free (hfr b z)
  .cases e
def dS(hc:X.calm=true)(a:dP X.env.scope X.N ag fr=true)(hi:QI X (.Name x px) rs iter src)
  (f:(cY [x] fr X.N).Nodup) (b:ag.names.lookup x=some .local)
  (j:∀cl C s0 H0 ex aa,QTs (cxComp X (cY [x] fr X.N) ag cl C s0 H0 ex aa) ifs fc)
  (he:∀cl C s0 H0 ex aa,QE (cxComp X (cY [x] fr X.N) ag cl C s0 H0 ex aa) true [] elt fe)
  (hs:∀x,foldedSetIterable iter X.env x=pure x:=by intro _;rfl) :
  QE X true [] (.ListComp elt [⟨.Name x px,iter,ifs,0⟩] ag ai) (cX fr src fc fe) :=
 .mk (Z4d (tgs:=[x]) (tt:=tDT X.K fc) (te:=tD X.K true [] fe) hc a hi (λcl C s0 H0 ex aa=>dM (i:=0) f rfl (.inl (lookup_relabel_local b)) (.inr (lookup_relabel_local b))) j he hs) λσ H Q h=>tJ h
structure EnvS(K:Frag)(P H:Hp)(σ:L2.St)(env:En)(F:Nat->List Addr):Prop where
 ok:EnvOk K H σ env F
 own:∀i d,env[i]?=some (some (true,d))->(F i).Nodup/\(∀b∈F i,P b=none)/\(∀v,σ[i]?=some (some v)->Rep K true H d v (F i))/\∀j s,j≠i->env[j]?=some (some s)->∀b∈F i,b∉F j
structure SInv(K:Frag)(P H:Hp)(σ:L2.St)(env:En):Prop where
 same:Same P H
 len:σ.length=env.length
 ex:∃F,EnvS K P H σ env F
theorem EnvS.dom{K:Frag}(h:EnvS K P H σ ac F){i:Nat}{s:Bool×D}(e:ac[i]?=some (some s)):∀b∈F i,∃o,H b=some o:=by
 obtain⟨o,d⟩:=s;obtain⟨v,_,r⟩:=h.ok i o d e;exact Rep.dom _ _ _ r
def EnvS.grow{K:Frag}(h:EnvS K P H σ ac F)(s:Same H H'):EnvS K P H' σ ac F :=
 ⟨h.ok.same s,λi d e=>let ⟨a,b,c,q⟩:=h.own i d e;⟨a,b,λv hv=>(c v hv).same s,q⟩⟩
theorem SInv.grow{K:Frag}(h:SInv K P H σ ac)(s:Same H H'):SInv K P H' σ ac :=
 ⟨h.same.trans s,h.len,let ⟨F,hF⟩:=h.ex;⟨F,hF.grow s⟩⟩
inductive Res where
 |next (ac:En)|ret (d:D)|brk (ac:En)|cont (ac:En)|bad
def Post(K:Frag)(P:Hp)(E:yP):Res->Prop
 | .next ac=>∀σ H,SInv K P H σ ac->E.nx σ H
 | .ret d=>∀v H fp,Same P H->Rep K true H d v fp->(∀b∈fp,P b=none)->fp.Nodup->E.rt v H
 | .brk ac=>∀σ H,SInv K P H σ ac->E.bk σ H
 | .cont ac=>∀σ H,SInv K P H σ ac->E.ct σ H
 | .bad=>False
def tDS(K:Frag)(g:En->Res):TS:=λE σ H=>∃P ac,SInv K P H σ ac/\Post K P E (g ac)
def QS(X:Cx)(st:Stmt)(g:En->Res):Prop:=PS X st (tDS X.K g)
def QSs(X:Cx)(st:Ab Stmt)(g:En->Res):Prop:=PSs X st (tDS X.K g)
def QS.mk{st:Stmt}(h:PS X st t)(hi:∀E σ H,tDS X.K g E σ H->t E σ H):QS X st g:=λaa s σ H E I q=>h aa s σ H E I (hi E σ H q)
def QSs.mk{st:Ab Stmt}(h:PSs X st t)(hi:∀E σ H,tDS X.K g E σ H->t E σ H):QSs X st g:=λaa s σ H E I q=>h aa s σ H E I (hi E σ H q)
def Z1T(F:Nat->Ab Af)(i:Nat)(f:Ab Af):Nat->Ab Af:=λj=>if j=i then f else F j
def bY:Z1T F i f i=f:=if_pos rfl
def bE(h:j≠i):Z1T F i f j=F j:=if_neg h
def cW{l:Ab α}(h:i<l.length):(l.set i x)[j]?=if j=i then some x else l[j]?:=by
 by_cases e:j=i
 .subst e;rw[if_pos rfl,QaC h]
 .rw[if_neg e,Qao (Ne.symm e)]
def sD{K:Frag}{P H H':Hp}(i:Nat)(u:Same P H)(y:σ.length=ac.length)(h:EnvS K P H σ ac F)(s:Same H H')(r:Rep K true H' d v fp)(nd:fp.Nodup)(fr:∀b∈fp,H b=none) :
  SInv K P H' (σ.set i (some v)) (ac.set i (some (true,d))):=by
 refine⟨u.trans s,by simp[y],Z1T F i fp,?_,?_⟩
 .intro j o d' e;by_cases hi:i<ac.length
  .rw[cW hi]at e;by_cases a:j=i
   .subst a;rw[if_pos rfl]at e;cases e;exact⟨v,QaC (by omega),by rw[bY];exact Rep.weak _ _ _ r⟩
   .rw[if_neg a]at e;obtain⟨w,h1,h2⟩:=h.ok j o d' e;exact⟨w,by rw[Qao (Ne.symm a)];exact h1,by rw[bE a];exact h2.same s⟩
  .rw[QaJ (by omega)]at e;have a:j≠i:=λz=>by rw[z,QaH (by omega)]at e;cases e
   obtain⟨w,h1,h2⟩:=h.ok j o d' e;exact⟨w,by rw[Qao (Ne.symm a)];exact h1,by rw[bE a];exact h2.same s⟩
 .intro j d' e;by_cases hi:i<ac.length
  .rw[cW hi]at e;by_cases a:j=i
   .subst a;rw[if_pos rfl]at e;cases e;refine⟨by rw[bY];exact nd,λb hb=>?_,λw hw=>?_,λk s' hk ek b hb=>?_⟩
    .rw[bY]at hb;cases x:P b with
     |none=>rfl
     |some o=>have:=u _ _ x;rw[fr b hb]at this;cases this
    .rw[QaC (by omega)]at hw;cases hw;rw[bY];exact r
    .rw[bY]at hb;rw[bE hk];rw[cW hi,if_neg hk]at ek;intro z;obtain⟨o,l⟩:=h.dom ek b z;rw[fr b hb]at l;cases l
   .rw[if_neg a]at e;obtain⟨q,t,n,p⟩:=h.own j d' e;refine⟨by rw[bE a];exact q,λb hb=>t b (by rw[bE a]at hb;exact hb),λw hw=>?_,λk s' hk ek b hb=>?_⟩
    .rw[Qao (Ne.symm a)]at hw;rw[bE a];exact(n w hw).same s
    .rw[bE a]at hb;rw[cW hi]at ek;by_cases f:k=i
     .subst f;rw[bY];intro z;obtain⟨o,l⟩:=h.dom e b hb;rw[fr b z]at l;cases l
     .rw[if_neg f]at ek;rw[bE f];exact p k s' hk ek b hb
  .rw[QaJ (by omega)]at e;have a:j≠i:=λz=>by rw[z,QaH (by omega)]at e;cases e
   obtain⟨q,t,n,p⟩:=h.own j d' e;refine⟨by rw[bE a];exact q,λb hb=>t b (by rw[bE a]at hb;exact hb),λw hw=>?_,λk s' hk ek b hb=>?_⟩
   .rw[Qao (Ne.symm a)]at hw;rw[bE a];exact(n w hw).same s
   .rw[bE a]at hb;rw[QaJ (by omega)]at ek;have f:k≠i:=λz=>by rw[z,QaH (by omega)]at ek;cases ek
    rw[bE f];exact p k s' hk ek b hb
def Z14{K:Frag}{P H H':Hp}(i:Nat)(n:Same P H)(u:σ.length=ac.length)(h:EnvS K P H σ ac F)(s:Same H H')(r:Rep K false H' d v fp)
  (fr:∀j d',ac[j]?=some (some (true,d'))->∀b∈F j,b∉fp):SInv K P H' (σ.set i (some v)) (ac.set i (some (false,d))):=by
 refine⟨n.trans s,by simp[u],Z1T F i fp,?_,?_⟩
 .intro j o d' e;by_cases hi:i<ac.length
  .rw[cW hi]at e;by_cases f:j=i
   .subst f;rw[if_pos rfl]at e;cases e;exact⟨v,QaC (by omega),by rw[bY];exact r⟩
   .rw[if_neg f]at e;obtain⟨w,h1,h2⟩:=h.ok j o d' e;exact⟨w,by rw[Qao (Ne.symm f)];exact h1,by rw[bE f];exact h2.same s⟩
  .rw[QaJ (by omega)]at e;have f:j≠i:=λz=>by rw[z,QaH (by omega)]at e;cases e
   obtain⟨w,h1,h2⟩:=h.ok j o d' e;exact⟨w,by rw[Qao (Ne.symm f)];exact h1,by rw[bE f];exact h2.same s⟩
 .intro j d' e;have a:j≠i:=by
   rintro rfl;by_cases hi:j<ac.length
   .rw[cW hi,if_pos rfl]at e;cases e
   .rw[QaJ (by omega),QaH (by omega)]at e;cases e
  rw[Qao (Ne.symm a)]at e;obtain⟨t,x,p,q⟩:=h.own j d' e;refine⟨by rw[bE a];exact t,λb hb=>x b (by rw[bE a]at hb;exact hb),λw hw=>?_,λk s' hk ek b hb=>?_⟩
  .rw[Qao (Ne.symm a)]at hw;rw[bE a];exact(p w hw).same s
  .rw[bE a]at hb;by_cases l:k=i
   .subst l;rw[bY];exact fr j d' e b hb
   .rw[Qao (Ne.symm l)]at ek;rw[bE l];exact q k s' hk ek b hb
def fz1(r:Nat)(ac:En):En:=match ac[r]? with
 |some (some (_,d))=>ac.set r (some (false,d))
 |_=>ac
def fz:Ab Nat->En->En
 |[],ac=>ac
 |r::rs,ac=>fz rs (fz1 r ac)
def Zaa:(fz1 r ac).length=ac.length:=by
 unfold fz1;split<;>simp
def Z4s:(fz1 r ac)[j]?=if j=r then(ac[j]?).map (Option.map λp=>(false,p.2)) else ac[j]?:=by
 unfold fz1;split
 .rename_i o d h;have b:r<ac.length:=(Qah.mp h).1;rw[cW b];by_cases a:j=r
  .subst a;simp[h]
  .simp[a]
 .rename_i h;by_cases a:j=r
  .subst a;rw[if_pos rfl];cases h1:ac[j]? with
   |none=>rfl
   |some o =>
    cases o with
    |none=>rfl
    |some p=>exact absurd h1 (h p.1 p.2)
  .rw[if_neg a]
theorem EnvS.fz1{K:Frag}(r:Nat)(h:EnvS K P H σ ac F):EnvS K P H σ (PD.fz1 r ac) F:=by
 have back:∀{j:Nat}{o:Bool}{d:D},(PD.fz1 r ac)[j]?=some (some (o,d))->∃o',ac[j]?=some (some (o',d))/\(j=r->o=false)/\(j≠r->o'=o):=by
  intro j o d e;rw[Z4s]at e;by_cases a:j=r
  .rw[if_pos a]at e;cases h1:ac[j]? with
   |none=>rw[h1]at e;cases e
   |some s =>
    cases s with
    |none=>rw[h1]at e;cases e
    |some p =>
     rw[h1]at e;cases e;exact⟨p.1,rfl,λ_=>rfl,λz=>absurd a z⟩
  .rw[if_neg a]at e;exact⟨o,e,λz=>absurd z a,λ_=>rfl⟩
 refine⟨λj o d e=>?_,λj d e=>?_⟩
 .obtain⟨o',h1,_⟩:=back e;exact h.ok j o' d h1
 .obtain⟨o',h1,h2,h3⟩:=back e;have a:j≠r:=λz=>by cases h2 z
  have:=h3 a;subst this;obtain⟨l,q,f,i⟩:=h.own j d h1;refine⟨l,q,f,λk s hk ek b hb=>?_⟩;obtain⟨u,v⟩:=s;obtain⟨t,n,_⟩:=back ek;exact i k _ hk n b hb
theorem EnvS.fz{K:Frag}:∀(rs:Ab Nat) {ac:En},EnvS K P H σ ac F->EnvS K P H σ (PD.fz rs ac) F
 |[],_,h=>h
 |r::rs,_,h=>EnvS.fz rs (h.fz1 r)
theorem Z0u:∀(rs:Ab Nat) {ac:En},(fz rs ac).length=ac.length
 |[],_=>rfl
 |r::rs,ac=>by show(fz rs (fz1 r ac)).length=_;rw[Z0u rs,Zaa]
theorem Z7Z:∀(rs:Ab Nat) {ac:En}{j:Nat}{d:D},(fz rs ac)[j]?=some (some (true,d))->j∉rs/\ac[j]?=some (some (true,d))
 |[],ac,j,d,e=>⟨by simp,e⟩
 |r::rs,ac,j,d,e=>by
  obtain⟨h1,h2⟩:=Z7Z rs (ac:=fz1 r ac) e;rw[Z4s]at h2;by_cases a:j=r
  .rw[if_pos a]at h2;cases h3:ac[j]? with
   |none=>rw[h3]at h2;cases h2
   |some s =>
    cases s with
    |none=>rw[h3]at h2;cases h2
    |some p=>rw[h3]at h2;cases h2
  .rw[if_neg a]at h2;exact⟨by simp[a,h1],h2⟩
def nrm(ac:En)(F:Nat->Ab Af):Nat->Ab Af:=λi=>match ac[i]? with|some (some _)=>F i|_=>[]
def qY(h:ac[i]?=some (some s)):nrm ac F i=F i:=by unfold nrm;rw[h]
def Z08(h:b∈nrm ac F i):∃s,ac[i]?=some (some s):=by
 unfold nrm at h;split at h
 .rename_i s e;exact⟨s,e⟩
 .cases h
theorem EnvS.nrm{K:Frag}(h:EnvS K P H σ ac F):EnvS K P H σ ac (PD.nrm ac F):=by
 refine⟨λi o d e=>by rw[qY e];exact h.ok i o d e,λi d e=>?_⟩;obtain⟨l,a,b,f⟩:=h.own i d e;rw[qY e];exact⟨l,a,b,λj s hj ej=>by rw[qY ej];exact f j s hj ej⟩
section
variable {X:Cx}{m:Bool}{rs:Ab Nat}{e a b c:Ag}{f fc:En->Aa D}{c':En->Aa Bool}{ai p pos':Pos}{st:Stmt}{sts:Ab Stmt}{g h:En->Res}{i:Nat}{x:Str}
def aJ(g h:En->Res):En->Res:=λac=>match g ac with
 | .next env'=>h env'
 |r=>r
def aX:En->Res:=.next
def aU:QSs X [] aX:=.mk B2 λE σ H ⟨P,ac,I,q⟩=>q σ H I
def aG(h1:QS X st g)(h2:QSs X sts h):QSs X (st::sts) (aJ g h):=.mk (mK h1 h2) λE σ H ⟨P,ac,I,q⟩=>by
 refine⟨P,ac,I,?_⟩;unfold aJ at q;cases a:g ac with
 |next env'=>rw[a]at q;exact λσ' H' I'=>⟨P,env',I',q⟩
 |ret d=>rw[a]at q;exact q
 |brk _=>rw[a]at q;exact q
 |cont _=>rw[a]at q;exact q
 |bad=>rw[a]at q;exact q
def aH(h1:QS X st g):QSs X [st] g:=.mk (sM h1) λE σ H q=>q
def kN:En->Res:=λ_=>.bad
def cL:QS X st kN:=.mk Z7f λE σ H ⟨P,ac,I,q⟩=>q.elim
def rIf(c:En->Aa Bool)(g h:En->Res):En->Res:=λac=>match c ac with
 |some true=>g ac
 |some false=>h ac
 |none=>.bad
def bT(hc:QT X c c')(b:QSs X sa g)(a:QSs X sb h):QS X (.If c sa sb ai) (rIf c' g h):=.mk (Z4b hc b a) λE σ H ⟨P,ac,I,q⟩=>by
 obtain⟨F,hF⟩:=I.ex;unfold rIf at q;split at q
 .rename_i h1;exact⟨ac,F,true,hF.ok,h1,λH' s=>yC ⟨P,ac,I.grow s,q⟩⟩
 .rename_i h1;exact⟨ac,F,false,hF.ok,h1,λH' s=>zX ⟨P,ac,I.grow s,q⟩⟩
 .exact q.elim
def aZ(f:En->Aa D):En->Res:=λac=>match f ac with
 |some d=>.ret d
 |none=>.bad
def aN(he:QE X true [] e f):QS X (.Return (some e) ai) (aZ f):=.mk (gT he) λE σ H ⟨P,ac,I,q⟩=>by
 obtain⟨F,hF⟩:=I.ex;unfold aZ at q;split at q
 .rename_i d h1;refine⟨ac,F,d,hF.ok,h1,λv H' fp s r c=>q v H' fp (I.same.trans s) r (λb hb=>?_) (c.2 rfl).1⟩;cases a:P b with
  |none=>rfl
  |some o=>have:=I.same _ _ a;rw[(c.2 rfl).2 b hb]at this;cases this
 .exact q.elim
def gG(h:X.N[i]?=some x:=by rfl)(j:Vis X.env.scope x:=by first|exact Or.inl rfl|exact Or.inr (Or.inl rfl)|exact Or.inr (Or.inr rfl))(hd:nDb x:=by decide)(a:(x==("__classdict__" : Str))=false:=by decide) :
  QS X (.Return (some (.Name x p)) ai) (λac=>match ac[i]? with|some (some (true,d))=>.ret d|_=>.bad):=.mk (gT (mL h j hd a)) λE σ H ⟨P,ac,I,q⟩=>by
 obtain⟨F,hF⟩:=I.ex;simp only at q;split at q
 .rename_i d h1;obtain⟨v,h2,_⟩:=hF.ok i true d h1;obtain⟨l,f,b,_⟩:=hF.own i d h1;exact⟨v,h2,q v H _ I.same (b v h2) f l⟩
 .exact q.elim
def bJ(i:Nat)(f:En->Aa D):En->Res:=λac=>match f ac with
 |some d=>.next (ac.set i (some (true,d)))
 |none=>.bad
def xK{K:Frag}(h:tDS K (bJ i f) E σ H):Z8I (tD K true [] f) (zD i) E σ H:=by
 obtain⟨P,ac,I,q⟩:=h;obtain⟨F,hF⟩:=I.ex;unfold bJ at q;split at q
 .rename_i d h1;exact⟨ac,F,d,hF.ok,h1,λv H' fp s r c=>q _ H' (sD i I.same I.len hF s r (c.2 rfl).1 (c.2 rfl).2)⟩
 .exact q.elim
def ZbE(b:X.N.Nodup)(hi:X.N[i]?=some x)(h:Loc X.env.scope x)(he:QE X true [] e f)(hs:swapsWith e (some (.Name x pos')) ai.line X.env=pure false:=by rfl)(a:X.fn x=true\/X.env.scope.names.lookup x=some .local:=by first|exact .inl rfl|exact .inr rfl|assumption) :
  QS X (.Assign [.Name x pos'] e ai) (bJ i f):=.mk (uP b hi h he hs a) λE σ H q=>xK q
def F9{fc:En->Aa Bool}
  (hc:X.calm=true) (o:X.N.Nodup) (f:X.N[i]?=some x) (a:Loc X.env.scope x) (h:dP X.env.scope X.N ag fr=true) (hi:QI X (.Name y px) rs iter src)
  (l:(cY [y] fr X.N).Nodup) (j:ag.names.lookup y=some .local)
  (p:∀cl C s0 H0 ex aa,QTs (cxComp X (cY [y] fr X.N) ag cl C s0 H0 ex aa) ifs fc)
  (he:∀cl C s0 H0 ex aa,QE (cxComp X (cY [y] fr X.N) ag cl C s0 H0 ex aa) true [] elt fe)
  (b:swapsWith (.ListComp elt [⟨.Name y px,iter,ifs,0⟩] ag ai) (some (.Name x pos')) spos.line X.env=pure true:=by rfl)
  (n:X.fn x=true\/X.env.scope.names.lookup x=some .local:=by first|exact .inl rfl|exact .inr rfl|assumption)
  (hs:∀x,foldedSetIterable iter X.env x=pure x:=by intro _;rfl) :
  QS X (.Assign [.Name x pos'] (.ListComp elt [⟨.Name y px,iter,ifs,0⟩] ag ai) spos) (bJ i (cX fr src fc fe)) :=
 .mk (Z2V (tgs:=[y]) (tt:=tDT X.K fc) (te:=tD X.K true [] fe) hc o f a h hi (λcl C s0 H0 ex aa=>dM (i:=0) l rfl (.inl (lookup_relabel_local j)) (.inr (lookup_relabel_local j))) p he b n hs)
  λE σ H q=>tJ (xK q)
def D5{K:Frag}(hF:EnvS K P H σ ac F)(c:Cond (nrm ac F) H m rs fp):∀j d',(fz rs ac)[j]?=some (some (true,d'))->∀b∈nrm ac F j,b∉fp:=by
 intro j d' e b f z;obtain⟨h1,h2⟩:=Z7Z rs e;rcases c.1 b z with y|⟨r,hr,y⟩
 .obtain⟨o,a⟩:=hF.nrm.dom h2 b f;rw[y]at a;cases a
 .obtain⟨s,hs⟩:=Z08 y;exact(hF.nrm.own j d' h2).2.2.2 r s (λz=>h1 (z ▸ hr)) hs b f y
def kD(i:Nat)(f:En->Aa D):En->Res:=λac=>match f ac,ac[i]? with
 |some d,some (some (true,.lst ds))=>if ds.length<=1000 then .next (ac.set i (some (true,.lst (ds++[d])))) else .bad
 |_,_=>.bad
def Z4Q{K:Frag}{a:Af}(I:Same P H)(O:σ.length=ac.length)(h:EnvS K P H σ ac F)(t:ac[i]?=some (some (true,.lst ds)))
  (G:σ[i]?=some (some (.ref a))) (hF:F i=a::fp') (L:H a=some (.lst vs)) (r:Reps K true H ds' vs' fp2) (nd:(a::fp2).Nodup) (n:∀b∈fp2,b∈fp'\/(P b=none/\∀j s,ac[j]?=some (some s)->b∉F j)) :
  SInv K P (upd H a (.lst vs')) σ (ac.set i (some (true,.lst ds'))):=by
 have hi:i<ac.length:=(Qah.mp t).1;obtain⟨S,C,R,q⟩:=h.own i _ t;have l:a∈F i:=by rw[hF];exact Qag
 have A:∀{fp:Ab Af},a∉fp->Kp fp H (upd H a (.lst vs')):=λn=>Kp.upd L (by intro xs z;cases z) (by intro x u z;cases z) n;have M:a∉fp2:=(Qav.mp nd).1;have v:∀st,Rep K st (upd H a (.lst vs')) (.lst ds') (.ref a) (a::fp2):=λst=>by
  have E:=Reps.keep _ _ _ (A M) r;cases st with
  |true=>simp only[Rep];exact⟨a,vs',fp2,rfl,E,.inl ⟨rfl,bC⟩⟩
  |false=>simp only[Rep];exact⟨a,vs',fp2,rfl,Reps.weak _ _ _ E,.inl ⟨rfl,bC⟩⟩
 refine⟨λb o e=>?_,by simp[O],Z1T F i (a::fp2),λj o d e=>?_,λj d e=>?_⟩
 .have:b≠a:=λz=>by have:=C a l;rw[z,this]at e;cases e
  rw[aY this];exact I _ _ e
 .rw[cW hi]at e;by_cases f:j=i
  .subst f;rw[if_pos rfl]at e;cases e;exact⟨_,G,by rw[bY];exact v false⟩
  .rw[if_neg f]at e;obtain⟨w,h1,h2⟩:=h.ok j o d e;exact⟨w,h1,by rw[bE f];exact Rep.keep _ _ _ (A (q j _ f e a l)) h2⟩
 .rw[cW hi]at e;by_cases f:j=i
  .subst f;rw[if_pos rfl]at e;cases e;refine⟨by rw[bY];exact nd,λb hb=>?_,λw hw=>?_,λk s hk ek b hb=>?_⟩
   .rw[bY]at hb;rcases Qab.mp hb with z|z
    .rw[z];exact C a l
    .rcases n b z with y|y
     .exact C b (by rw[hF];exact Qaa _ y)
     .exact y.1
   .rw[G]at hw;cases hw;rw[bY];exact v true
   .rw[bY]at hb;rw[bE hk];rw[cW hi,if_neg hk]at ek;rcases Qab.mp hb with z|z
    .rw[z];exact q k s hk ek a l
    .rcases n b z with y|y
     .exact q k s hk ek b (by rw[hF];exact Qaa _ y)
     .exact y.2 k s ek
  .rw[if_neg f]at e;obtain⟨N,Q,J,B⟩:=h.own j d e;refine⟨by rw[bE f];exact N,λb hb=>Q b (by rw[bE f]at hb;exact hb),λw hw=>by rw[bE f];exact Rep.keep _ _ _ (A (q j _ f e a l)) (J w hw),λk s hk ek b hb=>?_⟩;rw[bE f]at hb;rw[cW hi]at ek;by_cases p:k=i
   .subst p;rw[bY];intro z;rcases Qab.mp z with z|z
    .exact B k _ hk t b hb (by rw[z];exact l)
    .rcases n b z with y|y
     .exact B k _ hk t b hb (by rw[hF];exact Qaa _ y)
     .exact y.2 j _ e hb
   .rw[if_neg p]at ek;rw[bE p];exact B k s hk ek b hb
def Z5j(R:X.N[i]?=some x)(S:Vis X.env.scope x)(he:QE X true [] e f)(hd:nDb x:=by decide)(L:(x==("__classdict__" : Str))=false:=by decide)
  (M:starEach [e] X.env=(false,eval e X.env)::starEach [] X.env:=by rfl)
  (hpe:PE X (.Call (.Attribute (.Name x p) "append" apos) [e] [] cpos) (tBM X.K "list" Z5 (X1 i) (Z6x (tD X.K true [] f) Z8F)))
  (hs:swapsWith (.Call (.Attribute (.Name x p) "append" apos) [e] [] cpos) none ai.line X.env=pure false:=by rfl) :
  QS X (.Expr (.Call (.Attribute (.Name x p) "append" apos) [e] [] cpos) ai) (kD i f):=.mk (vV hpe hs) λE σ H ⟨P,ac,I,q⟩=>by
 obtain⟨F,hF⟩:=I.ex;unfold kD at q;split at q
 .rename_i d ds h1 h2;split at q
  .rename_i C;obtain⟨v,h,_⟩:=hF.ok i true _ h2;obtain⟨A,O,B,Q⟩:=hF.own i _ h2;obtain⟨a,vs,fp',rfl,t,u,y⟩:=mG (B v h);refine⟨.ref a,h,.inl ⟨rfl,vs,SqL.of u⟩,ac,F,d,hF.ok,h1,λv' H' fp s r c=>?_⟩;have n:=s _ _ u;refine⟨a,vs,v',rfl,rfl,n,gD (by rw[y.length];exact C),q _ _ ?_⟩;refine Z4Q (fp2:=fp'++fp) (I.same.trans s) I.len (hF.grow s) h2 h t n ((y.same s).snoc r) ?_ ?_
   .rw[t]at A;obtain⟨G,J⟩:=Qav.mp A;refine Qav.mpr ⟨λz=>?_,Qau.mpr ⟨J,(c.2 rfl).1,λb w b' hb' z=>?_⟩⟩
    .rcases Qaf.mp z with z|z
     .exact G z
     .have:=(c.2 rfl).2 a z;rw[u]at this;cases this
    .obtain⟨o,l⟩:=Reps.dom _ _ _ y b w;have:=(c.2 rfl).2 b' hb';rw[<- z,l]at this;cases this
   .intro b w;rcases Qaf.mp w with z|z
    .exact .inl z
    .refine .inr ⟨I.same.free ((c.2 rfl).2 b z),λj s' ej hz=>?_⟩;obtain⟨o,l⟩:=hF.dom ej b hz;rw[(c.2 rfl).2 b z]at l;cases l
  .exact q.elim
 .exact q.elim
end
mutual
theorem Rep.kind{K:Frag}{st:Bool}{H:Hp}:∀(d:D) (v:V) (fp:Ab Af),Rep K st H d v fp->∀b∈fp,(∀xs,H b≠some (.tup xs))/\∀o u,H b≠some (.frz o u)
 | .non,v,fp,h,b,hb=>by simp only[Rep]at h;rw[h.2]at hb;cases hb
 | .bl _,v,fp,h,b,hb=>by simp only[Rep]at h;rw[h.2]at hb;cases hb
 | .int _,v,fp,h,b,hb=>by simp only[Rep]at h;rw[h.2]at hb;cases hb
 | .str _,v,fp,h,b,hb=>by simp only[Rep]at h;rw[h.2]at hb;cases hb
 | .tup ds,v,fp,h,b,hb=>by
  simp only[Rep]at h;obtain⟨a,vs,e,hs,hr⟩:=h;exact Reps.kind ds vs fp hr b hb
 | .lst ds,v,fp,h,b,hb=>by
  simp only[Rep]at h;obtain⟨a,vs,fp',e,hr,hs⟩:=h;rcases hs with⟨rfl,hs⟩|⟨_,rfl,hs⟩
  .rcases Qab.mp hb with z|z
   .exact⟨λxs q=>(by rw[z,hs]at q;cases q),λo u q=>(by rw[z,hs]at q;cases q)⟩
   .exact Reps.kind ds vs fp' hr b z
  .exact Reps.kind ds vs fp hr b hb
 | .obj C ns ds,v,fp,h,b,hb=>by
  simp only[Rep]at h;obtain⟨a,dx,vs,fp',e,rfl,hs,hd,hl,hr⟩:=h;rcases Qab.mp hb with z|z
  .exact⟨λxs q=>(by rw[z,hs]at q;cases q),λo u q=>(by rw[z,hs]at q;cases q)⟩
  .rcases Qab.mp z with z|z
   .exact⟨λxs q=>(by rw[z,hd]at q;cases q),λo u q=>(by rw[z,hd]at q;cases q)⟩
   .exact Reps.kind ds vs fp' hr b z
 | .dk ks ds,v,fp,h,b,hb=>by
  simp only[Rep]at h;obtain⟨a,vs,fp',e,rfl,hs,hl,hr⟩:=h;rcases Qab.mp hb with z|z
  .exact⟨λxs q=>(by rw[z,hs]at q;cases q),λo u q=>(by rw[z,hs]at q;cases q)⟩
  .exact Reps.kind ds vs fp' hr b z
 | .exc C,v,fp,h,b,hb=>by
  simp only[Rep]at h;obtain⟨a,e,rfl,hs⟩:=h;rw[Qaq.mp hb];exact⟨λxs q=>(by rw[hs]at q;cases q),λo u q=>(by rw[hs]at q;cases q)⟩
 | .fn a vs ds,v,fp,h,b,hb=>by
  simp only[Rep]at h;exact Reps.kind ds vs fp h.2 b hb
theorem Reps.kind{K:Frag}{st:Bool}{H:Hp}:∀(ds:Ab D) (vs:Ab V) (fp:Ab Af),Reps K st H ds vs fp->∀b∈fp,(∀xs,H b≠some (.tup xs))/\∀o u,H b≠some (.frz o u)
 |[],vs,fp,h,b,hb=>by simp only[Reps]at h;rw[h.2]at hb;cases hb
 |d::ds,vs,fp,h,b,hb=>by
  simp only[Reps]at h;obtain⟨v,r,f1,f2,e1,rfl,h1,h2⟩:=h;rcases Qaf.mp hb with z|z
  .exact Rep.kind d v f1 h1 b z
  .exact Reps.kind ds r f2 h2 b z
end
def SInv.lower{K:Frag}{P f H:Hp}{σ:L2.St}{ac:En}(s:Same P f)(h:SInv K f H σ ac):SInv K P H σ ac :=
 ⟨s.trans h.same,h.len,let ⟨F,hF⟩:=h.ex;⟨F,hF.ok,λi d e=>let ⟨a,b,c,q⟩:=hF.own i d e;⟨a,λx hx=>s.free (b x hx),c,q⟩⟩⟩
def Z4V{K:Frag}{P H:Hp}{σ:L2.St}{ac:En}{F:Nat->Ab Af}{d:D}{v:V}{fp:Ab Af}(i:Nat)(u:σ.length=ac.length)(h:EnvS K P H σ ac F)(r:Rep K false H d v fp)
  (fr:∀j d',ac[j]?=some (some (true,d'))->∀b∈F j,b∉fp):EnvS K P H (σ.set i (some v)) (ac.set i (some (false,d))) (Z1T F i fp):=by
 refine⟨?_,?_⟩
 .intro j o d' e;by_cases hi:i<ac.length
  .rw[cW hi]at e;by_cases f:j=i
   .subst f;rw[if_pos rfl]at e;cases e;exact⟨v,QaC (by omega),by rw[bY];exact r⟩
   .rw[if_neg f]at e;obtain⟨w,h1,h2⟩:=h.ok j o d' e;exact⟨w,by rw[Qao (Ne.symm f)];exact h1,by rw[bE f];exact h2⟩
  .rw[QaJ (by omega)]at e;have f:j≠i:=λz=>by rw[z,QaH (by omega)]at e;cases e
   obtain⟨w,h1,h2⟩:=h.ok j o d' e;exact⟨w,by rw[Qao (Ne.symm f)];exact h1,by rw[bE f];exact h2⟩
 .intro j d' e;have a:j≠i:=by
   rintro rfl;by_cases hi:j<ac.length
   .rw[cW hi,if_pos rfl]at e;cases e
   .rw[QaJ (by omega),QaH (by omega)]at e;cases e
  rw[Qao (Ne.symm a)]at e;obtain⟨q,t,n,p⟩:=h.own j d' e;refine⟨by rw[bE a];exact q,λb hb=>t b (by rw[bE a]at hb;exact hb),λw hw=>?_,λk s' hk ek b hb=>?_⟩
  .rw[Qao (Ne.symm a)]at hw;rw[bE a];exact n w hw
  .rw[bE a]at hb;by_cases l:k=i
   .subst l;rw[bY];exact fr j d' e b hb
   .rw[Qao (Ne.symm l)]at ek;rw[bE l];exact p k s' hk ek b hb
def tDG(K:Frag)(t:D->En->Aa En):TG:=λv σ H Q=>∃P ac F d fp env',Same P H/\σ.length=ac.length/\EnvS K P H σ ac F/\Rep K false H d v fp/\(∀j d',ac[j]?=some (some (true,d'))->∀b∈F j,b∉fp)/\t d ac=some env' /\
 ∀σ',SInv K P H σ' env'->Q σ' H
def QG(X:Cx)(tg:Ag)(t:D->En->Aa En):Prop:=PG X tg (tDG X.K t)
def QG.mk(h:PG X tg g)(hi:∀v σ H Q,tDG X.K t v σ H Q->g v σ H Q):QG X tg t:=λaa s σ H v u Q I r q=>h aa s σ H v u Q I r (hi v σ H Q q)
def gtN(i:Nat):D->En->Aa En:=λd ac=>some (ac.set i (some (false,d)))
def kM:Ab Nat->Ab D->En->Aa En
 |[],[],ac=>some ac
 |i::is,d::ds,ac=>kM is ds (ac.set i (some (false,d)))
 |_,_,_=>none
def gtT(is:Ab Nat):D->En->Aa En:=λd ac=>match d with
 | .tup ds=>kM is ds ac
 |_=>none
def Z0t:Ab Nat->TGs
 |[]=>Zdo
 |i::is=>ZaU (zD i) (Z0t is)
theorem D6:∀{is:Ab Nat}{ds:Ab D}{ac env':En},kM is ds ac=some env'->is.length=ds.length
 |[],[],_,_,_=>rfl
 |i::is,d::ds,ac,env',h=>by simp only[kM]at h;simp[D6 h]
 |[],_::_,_,_,h=>by simp[kM]at h
 |_::_,[],_,_,h=>by simp[kM]at h
theorem J4{K:Frag}{P H:Hp}{Q:L2.St->Hp->Prop}:∀{is:Ab Nat}{ds:Ab D}{vs:Ab V}{fp:Ab Af}{σ:L2.St}{ac env':En}{F:Nat->Ab Af},Same P H->σ.length=ac.length->EnvS K P H σ ac F->Reps K false H ds vs fp ->
  (∀j d',ac[j]?=some (some (true,d'))->∀b∈F j,b∉fp)->kM is ds ac=some env'->(∀σ',SInv K P H σ' env'->Q σ' H)->Z0t is vs σ H Q
 |[],[],vs,fp,σ,ac,env',F,sm,hl,h,r,fr,e,q=>by
  simp only[Reps]at r;simp only[kM]at e;cases e;exact⟨r.1,q σ ⟨sm,hl,F,h⟩⟩
 |i::is,d::ds,vs,fp,σ,ac,env',F,sm,hl,h,r,fr,e,q=>by
  simp only[Reps]at r;obtain⟨v,us,f1,n,rfl,rfl,l,f⟩:=r;simp only[kM]at e;refine⟨v,us,rfl,?_⟩;have h':=Z4V i hl h l λj d' ej b hb z=>fr j d' ej b hb (Qar _ z);refine J4 (is:=is) (ds:=ds) sm (by simp[hl]) h' f (λj d' ej b hb z=>?_) e q;have a:j≠i:=by
   rintro rfl;by_cases hi:j<ac.length
   .rw[cW hi,if_pos rfl]at ej;cases ej
   .rw[QaJ (by omega),QaH (by omega)]at ej;cases ej
  rw[Qao (Ne.symm a)]at ej;rw[bE a]at hb;exact fr j d' ej b hb (Qae _ z)
 |[],_::_,_,_,_,_,_,_,_,_,_,_,_,h,_=>by simp[kM]at h
 |_::_,[],_,_,_,_,_,_,_,_,_,_,_,h,_=>by simp[kM]at h
section
variable {X:Cx}{rs:Ab Nat}{e a b iter tg:Ag}{es:Ab Ag}{ai:Pos}{body:Ab Stmt}{g h:En->Res}{i:Nat}{x:Str}{src:En->Aa (Ab D)}{t:D->En->Aa En}
def Z9i(b:X.N.Nodup)(hi:X.N[i]?=some x)(f:Loc X.env.scope x)(a:X.fn x=true\/X.env.scope.names.lookup x=some .local:=by first|exact .inl rfl|exact .inr rfl|assumption):QG X (.Name x ai) (gtN i) :=
 .mk (dM b hi f a) λv σ H Q ⟨P,ac,F,d,fp,env',sm,hl,hF,r,fr,e,q⟩=>by
  cases e;exact q _ (Z14 i sm hl hF (Same.refl H) r fr)
def G1(hc:X.calm=true)(h:PGs X es (Z0t is))(i:is.length=n)(o:(assignEach es X.env).length=n:=by rfl)(b:(assignEach es X.env).findIdx? (·.1)=none:=by rfl):QG X (.Tuple es k ai) (gtT is) :=
 .mk (Z7k hc h o b) λv σ H Q ⟨P,ac,F,d,fp,env',sm,hl,hF,r,fr,e,q⟩=>by
  cases d with
  |tup ds =>
   simp only[Rep]at r;obtain⟨a,vs,rfl,l,j⟩:=r;have f:kM is ds ac=some env':=e;exact⟨a,vs,rfl,l,by rw[j.length,<- D6 f,i],J4 sm hl hF j fr f q⟩
  |_=>cases e
def rP(t:D->En->Aa En)(g:En->Res):Ab D->En->Res
 |[],ac=>.next ac
 |d::r,ac=>match t d ac with
  |none=>.bad
  |some env1=>match g env1 with
   | .next e=>rP t g r e
   | .cont e=>rP t g r e
   | .brk e=>.next e
   | .ret d=>.ret d
   | .bad=>.bad
def eZ(rs:Ab Nat)(src:En->Aa (Ab D))(t:D->En->Aa En)(g:En->Res):En->Res:=λac=>match src ac with
 |some ds=>rP t g ds (fz rs ac)
 |none=>.bad
open Classical in
def dI(hc:X.calm=true)(hp:PassesOwn (model X.prog X.w) X.A X.env X.xe)(hi:QI X tg rs iter src)(n:QG X tg t)(a:QSs X body g)(hs:∀x,foldedSetIterable iter X.env x=pure x:=by intro _;rfl) :
  QS X (.For tg iter body [] ai) (eZ rs src t g):=.mk (Z2W hp hc hi n a hs) λE σ H ⟨P,ac,I,q⟩=>by
 obtain⟨F,hF⟩:=I.ex;unfold eZ at q;split at q
 .rename_i ds h1;refine⟨ac,nrm ac F,ds,hF.nrm.ok,h1,λJ H1 fp s1 gv dm cd=>?_⟩;have ap:=D5 hF cd
  let O:Af->Prop:=λb=>∃j d,(fz rs ac)[j]?=some (some (true,d))/\b∈nrm ac F j
  let h:Hp:=λb=>if O b then none else H1 b
  have p:EnvS X.K P H1 σ (fz rs ac) (nrm ac F):=(hF.nrm.fz rs).grow s1;have y:∀b,O b->(∀xs,H1 b≠some (.tup xs))/\∀o u,H1 b≠some (.frz o u):=λb ⟨j,d,e,a⟩=>by
   obtain⟨v,hv,r⟩:=p.ok j true d e;exact Rep.kind _ _ _ r b a
  have pn:∀{b:Af},¬O b->h b=H1 b:=λhn=>if_neg hn;have W:∀{b:Af},O b->h b=none:=λf=>if_pos f;have sP1:Same h H1:=λb o e=>by
   by_cases f:O b
   .rw[W f]at e;cases e
   .rw[pn f]at e;exact e
  have M:Same P h:=λb o e=>by
   have f:¬O b:=λ⟨j,d,L,a⟩=>by
    have:=(p.own j d L).2.1 b a;rw[this]at e;cases e
   rw[pn f];exact s1 _ _ (I.same _ _ e)
  have Q:∀b∈fp,¬O b:=λb a ⟨j,d,L,hb'⟩=>ap j d L b hb' a;have kp:∀{l:Hp},Same h l->Kp fp H1 l:=λS=>⟨λb a o e=>S _ _ (by rw[pn (Q b a)];exact e),
   λb xs e=>S _ _ (by rw[pn (λf=>(y b f).1 _ e)];exact e),
   λb o u e=>S _ _ (by rw[pn (λf=>(y b f).2 _ _ e)];exact e)⟩
  refine⟨λi k σ' H'=>i<=ds.length/\k=ds.length-i/\∃env',SInv X.K h H' σ' env'/\Post X.K P E (rP t g (ds.drop i) env'),
   ⟨ds.length,QaY _,rfl,fz rs ac,⟨sP1,by rw[Z0u];exact I.len,nrm ac F,p.ok,λj d e=>?_⟩,by simpa using q⟩,?_⟩
  .obtain⟨a1,a2,a3,a4⟩:=p.own j d e;exact⟨a1,λb a=>W ⟨j,d,e,a⟩,a3,a4⟩
  .rintro i k σ' H' ⟨hi,hk,env',I',q'⟩;have gi:=gv H' (kp I'.same) i;by_cases B:i<ds.length
   .right;have hd:ds[i]?=some ds[i]:=Qam B;obtain⟨go,hy⟩:=gi.1 _ hd;have N:ds.drop i=ds[i]::ds.drop (i+1):=Qbe B;rw[N]at q';refine⟨go,λσ2 l=>∃env2,SInv X.K h l σ2 env2/\Post X.K P E (rP t g (ds.drop (i+1)) env2),λσ2 l ⟨env2,C,q2⟩=>⟨ds.length-(i+1),by omega,B,rfl,env2,C,q2⟩,λx l y2=>?_⟩;obtain⟨Z,f2,r2,G⟩:=hy x l y2;unfold rP at q';cases T:t ds[i] env' with
    |none=>rw[T]at q';exact q'.elim
    |some env1 =>
     rw[T]at q';simp only at q';have C:=I'.grow Z;obtain⟨F2,R⟩:=C.ex;refine⟨h,env',F2,_,f2,env1,C.same,C.len,R,r2,λj d' L b a z=>?_,T,λσ3 I3=>⟨h,env1,I3,?_⟩⟩
     .have h5:=(R.own j d' L).2.1 b a;rw[pn (Q b (G b z))]at h5;obtain⟨o,U⟩:=dm b (G b z);rw[h5]at U;cases U
     .cases n:g env1 with
      |next e2=>rw[n]at q';exact λσ4 H4 I4=>⟨e2,I4,q'⟩
      |cont e2=>rw[n]at q';exact λσ4 H4 I4=>⟨e2,I4,q'⟩
      |brk e2=>rw[n]at q';exact λσ4 H4 I4=>q' σ4 H4 (I4.lower M)
      |ret d=>rw[n]at q';exact λv H4 fp4 s4 r4 n4 nd4=>q' v H4 fp4 (M.trans s4) r4 (λb a=>M.free (n4 b a)) nd4
      |bad=>rw[n]at q';exact q'.elim
   .left;have Y:i=ds.length:=by omega
    rw[Y,List.drop_length]at q';exact⟨gi.2 (by omega),q' σ' H' (I'.lower M)⟩
 .exact q.elim
end
def eU(L:Nat)(ds:Ab D):En:=ds.map (λd=>some (false,d))++List.replicate (L-ds.length) none
def cA(L:Nat)(g:En->Res):Ab D->Aa D:=λds=>match g (eU L ds) with
 | .ret d=>some d
 | .next _=>some .non
 |_=>none
theorem Z2{K:Frag}{H:Hp}{st:Bool}:∀{ds:Ab D}{vs:Ab V}{fp:Ab Af},Reps K st H ds vs fp->∃F:Nat->Ab Af,∀i d,ds[i]?=some d->∃v,vs[i]?=some v/\Rep K st H d v (F i)
 |[],vs,fp,_=>⟨λ_=>[],λi d e=>by simp at e⟩
 |d::ds,vs,fp,r=>by
  simp only[Reps]at r;obtain⟨v,us,f1,f,rfl,rfl,b,a⟩:=r;obtain⟨F,hF⟩:=Z2 a;refine⟨λi=>match i with|0=>f1|i+1=>F i,λi d' e=>?_⟩
  cases i with
  |zero=>simp at e;subst e;exact⟨v,rfl,b⟩
  |succ i =>
   obtain⟨w,h1,h2⟩:=hF i d' (by simpa using e);exact⟨w,by simpa using h1,h2⟩
def oX{K:Frag}{H:Hp}{N:Ab Str}{ds:Ab D}{vs:Ab V}{fp:Ab Af}(r:Reps K false H ds vs fp):SInv K H H (L2.start N vs) (eU N.length ds):=by
 obtain⟨F,hF⟩:=Z2 r;refine⟨Same.refl H,by simp[L2.start,eU,r.length],F,λi o d e=>?_,λi d e=>?_⟩
 .unfold eU at e;by_cases hi:i<ds.length
  .rw[QaI (by simpa using hi),Qax]at e;cases hd:ds[i]? with
   |none=>rw[hd]at e;cases e
   |some d' =>
    rw[hd]at e;cases e;obtain⟨v,h1,h2⟩:=hF i d hd;refine⟨v,?_,h2⟩;unfold L2.start;rw[QaI (by rw[Qad,r.length];exact hi),Qax,h1];rfl
  .rw[Qa3 (by simpa using hi),Qbi]at e;split at e<;>cases e
 .unfold eU at e;by_cases hi:i<ds.length
  .rw[QaI (by simpa using hi),Qax]at e;cases hd:ds[i]? with
   |none=>rw[hd]at e;cases e
   |some d'=>rw[hd]at e;cases e
  .rw[Qa3 (by simpa using hi),Qbi]at e;split at e<;>cases e
structure FunD(K:Frag)(x qual:Str)(st:Stmt)(f:Addr)(fd:FuncData):Prop where
 ex:∃(oc:Ad) (od:Aa Af) (dV kV doc pm:Ad) (an:Aa Af) (cdv ct:Ad) (osl:Ae (Aa Ad)),
  fd=fnOf x qual (eV st) (cN st) (aS st) dV kV doc pm an cdv ct/\K.lookup f=some ⟨oc,od,.func fd,osl⟩/\codeIn K cdv qual=true
 kp:keepIn K (.ref f)=true
def wK{K:Frag}{x ah:Str}{st:Stmt}{f:Af}{n:Ad}{o an:Aa Af}{h:Ae (Aa Ad)}{i kV b j a ct:Ad}(l:K.lookup f=some ⟨n,o,.func (fnOf x ah (eV st) (cN st) (aS st) i kV b j an a ct),h⟩)
  (c:codeIn K a ah=true) (k:keepIn K (.ref f)=true):FunD K x ah st f (fnOf x ah (eV st) (cN st) (aS st) i kV b j an a ct) :=
 ⟨⟨n,o,i,kV,b,j,an,a,ct,h,rfl,l,c⟩,k⟩
def FunD.ok{P:Aj}{w:Ak}{K:Frag}{mg:Str->Aa Ad}{ad:Ah}{x ah:Str}{st:Stmt}{f:Af}{fd:FuncData}{N ps:Ab Str}{k n L:Nat}{g:En->Res}(F:FunD K x ah st f fd)(S:fL N ps (aS st))(p:ps.length=n)(t:N.length=L)
  (j:∀(a:Ad) (A:Ai) (af:Ab Env) (s:Ac) (H:Hp) (E:XK),Room k (A.deeper (envOfC ah (aS st) s.heap.objs.size f a))->QSs (yK CX0 P w K mg ad N ah (aS st) f a A af s H E).nox (cN st) g) :
  jK P w K mg ad CX0 (k+1) f fd ps (spD K n (cA L g)):=by
 subst p t;obtain⟨B,C,G,kV,u,I,an,a,ct,y,rfl,o,l⟩:=F.ex;refine Z1V o l S (λvs H Q E h=>Z8O h) λA af s H vs Q E hr hsp=>?_;obtain⟨ds,d,fp,h1,h2,h3,q⟩:=hsp;have hq:=j a A af s H E hr;refine⟨_,PSs.nox hq,H,eU N.length ds,oX h2,?_⟩;unfold cA at h3;cases i:g (eU N.length ds) with
 |ret d' =>
  rw[i]at h3;cases h3;exact λv H' fp' s r fr nd=>q v H' fp' s r fr nd
 |next env' =>
  rw[i]at h3;cases h3;exact λσ' H' I'=>q .non H' [] I'.same pB (λb j=>(by cases j)) QaD
 |brk _=>rw[i]at h3;cases h3
 |cont _=>rw[i]at h3;cases h3
 |bad=>rw[i]at h3;cases h3
open PySem PySem.Spec PyProof.Rows L2 PySem.SeqAt
def eqL(f:D->D->Aa Bool):Ab D->Ab D->Aa Bool
 |x::xs,y::ys=>match f x y,eqL f xs ys with
  |some a,some b=>some (a&&b)
  |_,_=>none
 |_,_=>some true
def eqK(f:D->D->Aa Bool):D->D->Aa Bool
 | .bl a,.bl b=>some (a==b)
 | .int a,.int b=>some (a==b)
 | .str a,.str b=>some (a==b)
 | .non,.int _=>some false
 | .lst xs,.lst ys=>if xs.length=ys.length then eqL f xs ys else some false
 | .lst _,.str _=>some false
 |_,_=>none
def eqN:Nat->D->D->Aa Bool
 |0=>λ_ _=>none
 |n+1=>eqK (eqN n)
theorem Z21:∀{xs ys:Ab D}{k:Bool},eqL f xs ys=some k->∃e:Nat->Bool,(∀j x y,xs[j]?=some x->ys[j]?=some y->f x y=some (e j))/\(List.range (min xs.length ys.length)).all e=k
 |[],ys,k,h=>by simp only[eqL]at h;cases h;exact⟨λ_=>true,λj x y h=>by simp at h,by simp⟩
 |x::xs,[],k,h=>by simp only[eqL]at h;cases h;exact⟨λ_=>true,λj x y _ h=>by simp at h,by simp⟩
 |x::xs,y::ys,k,h=>by
  simp only[eqL]at h;split at h
  .rename_i a b h1 h2;cases h;obtain⟨e,i,l⟩:=Z21 h2;refine⟨λj=>match j with|0=>a|j+1=>e j,λj x' y' e1 e2=>?_,?_⟩
   .cases j with
    |zero=>simp at e1 e2;subst e1 e2;exact h1
    |succ j=>exact i j x' y' (by simpa using e1) (by simpa using e2)
   .simp only[Qai,Nat.succ_min_succ,List.range_succ_eq_map,List.all_cons,List.all_map];rw[<- l];congr 1
  .cases h
def Z96(I:Inv X aa σ H s):∀(n:Nat) (a b:D) (v:V) (f1 f:Ab Af) (k:Bool),Rep X.K st1 H a v f1->Rep X.K st2 H b v f->eqN n a b=some k->k=true:=by
 intro n
 induction n with
 |zero=>intro a b v f1 f k _ _ e;simp[eqN]at e
 |succ n ih =>
  have p:∀(xs ys:Ab D) (vs:Ab V) (f1 f:Ab Af) (k:Bool),Reps X.K st1 H xs vs f1->Reps X.K st2 H ys vs f->eqL (eqN n) xs ys=some k->k=true:=by
   intro xs
   induction xs with
   |nil=>intro ys vs f1 f k _ _ e;simp only[eqL]at e;cases e;rfl
   |cons x xs ihx =>
    intro ys vs f1 f k t r e;cases ys with
    |nil=>simp only[eqL]at e;cases e;rfl
    |cons y ys =>
     simp only[Reps]at t r;obtain⟨v,us,M,N,rfl,_,B,A⟩:=t;obtain⟨J,F,O,L,o,_,C,w⟩:=r;cases o;simp only[eqL]at e;split at e
     .rename_i c d h1 h2;cases e;rw[ih _ _ _ _ _ _ B C h1,ihx _ _ _ _ _ A w h2];rfl
     .cases e
  intro a b v f1 f k i j e;unfold eqN eqK at e;split at e
  .cases (fW i).symm.trans (fW j);cases e;simp
  .cases (bS i).symm.trans (bS j);cases e;simp
  .cases (cS i).symm.trans (cS j);cases e;simp
  .cases (lG i).symm.trans (bS j)
  .obtain⟨a,vs,fp',rfl,hs,u,_⟩:=cB i;obtain⟨G,E,fp2,o,q,l,_⟩:=cB j;cases o;obtain rfl:=I.list_inj hs q;rw[if_pos (by rw[<- u.length,<- l.length])]at e;exact p _ _ _ _ _ _ u l e
  .obtain⟨a,vs,fp',h,_⟩:=cB i;cases h.symm.trans (cS j)
  .cases e
def mC(A:Ai):A.in1.units=A.units+1:=rfl
def Z89(I:Inv X aa σ H s):∀(n:Nat) (A:Ai) (a b:D) (v u:V) (o q:Ad) (f1 T:Ab Af) (k:Bool),A.units+n<=cLine->Rep X.K st1 H a v f1->Rep X.K st2 H b u T->RelV v o->RelV u q->eqN n a b=some k ->
  EqAt A s o q k/\RcAt A s o q k/\RcNeAt A s o q (!k):=by
 intro n
 induction n with
 |zero=>intro A a b v u o q f1 T k _ _ _ _ _ e;simp[eqN]at e
 |succ n ih =>
  intro A a b v u o q f1 T k hu r B E G e;have l:A.units<cLine:=by omega
  have N:∀{xs ys:Ab D}{vs us:Ab V}{ak f:Ab Ad}{J R:Ab Af}{O:Nat->Bool},Reps X.K st1 H xs vs J->Reps X.K st2 H ys us R->Vals vs ak->Vals us f->(∀j x y,xs[j]?=some x->ys[j]?=some y->eqN n x y=some (O j)) ->
    ∀j (h1:j<ak.toArray.size) (h2:j<f.toArray.size),EqAt A.in1 s ak.toArray[j] f.toArray[j] (O j):=by
   intro xs ys vs us ak f J R O Z r2 w1 F he j h1 h2;have l1:=Z.length;have l2:=r2.length;have l3:=w1.length;have l4:=F.length;have j1:j<xs.length:=by simp at h1;omega
   have j2:j<ys.length:=by simp at h2;omega
   obtain⟨v1,_,a1,a2,_⟩:=Z.get (Qam j1);obtain⟨v2,_,b1,b2,_⟩:=r2.get (Qam j2);obtain⟨u1,c1,c2⟩:=w1.get a1;obtain⟨u2,d1,d2⟩:=F.get b1;have e1:ak.toArray[j]=u1:=by have:=Qah.mp c1;obtain⟨_,z⟩:=this;simpa using z
   have e2:f.toArray[j]=u2:=by have:=Qah.mp d1;obtain⟨_,z⟩:=this;simpa using z
   rw[e1,e2];exact(ih A.in1 _ _ _ _ _ _ _ _ _ (by rw[mC];omega) a2 b2 c2 d2 (he j _ _ (Qam j1) (Qam j2))).1
  have S:∀{i w},RelV (.int i) w->∃t,w=Value.int i t:=λh=>h;have vs:∀{i w},RelV (.str i) w->∃t,w=Value.str i t:=λh=>h;unfold eqN eqK at e;split at e
  .cases e;cases fW r;cases fW B;cases (show o=Value.bool _ from E)
   cases (show q=Value.bool _ from G)
   exact⟨EqAt.bool_bool _ _,RcAt.bool_bool _ _,RcNeAt.bool_bool _ _⟩
  .cases e;cases bS r;cases bS B;obtain⟨t,rfl⟩:=S E;obtain⟨t',rfl⟩:=S G;exact⟨EqAt.int_int _ _ _ _,RcAt.int_int _ _ _ _,RcNeAt.int_int _ _ _ _⟩
  .cases e;cases cS r;cases cS B;obtain⟨t,rfl⟩:=vs E;obtain⟨t',rfl⟩:=vs G;exact⟨EqAt.str_str _ _ _ _,RcAt.str_str _ _ _ _,RcNeAt.str_str _ _ _ _⟩
  .cases e;cases lG r;cases bS B;cases (show o=Value.none from E)
   obtain⟨t,rfl⟩:=S G;exact⟨EqAt.none_int _ _,RcAt.none_int _ _,RcNeAt.none_int _ _⟩
  .rename_i xs ys;obtain⟨p,vs,_,rfl,hs,P,_⟩:=cB r;cases (show o=Value.ref p from E)
   obtain⟨ak,w1,pl,_⟩:=I.list hs;obtain⟨Q,us,_,rfl,U,M,_⟩:=cB B;cases (show q=Value.ref Q from G)
   obtain⟨f,F,C,_⟩:=I.list U;have l1:=P.length;have l2:=M.length;have l3:=w1.length;have l4:=F.length;have L:RcAt A s (.ref p) (.ref Q) k/\RcNeAt A s (.ref p) (.ref Q) (!k):=by
    by_cases W:xs.length=ys.length
    .rw[if_pos W]at e;obtain⟨O,J,R⟩:=Z21 e;have hsz:ak.toArray.size=f.toArray.size:=by simp;omega
     have em:ak.toArray.size=min xs.length ys.length:=by simp;omega
     have rc:=RcAt.lists pl.isList C.isList hsz l (N P M w1 F J);have Y:=RcNeAt.lists pl.isList C.isList hsz l (N P M w1 F J);rw[em,R]at rc Y;exact⟨rc,Y⟩
    .rw[if_neg W]at e;cases e;have hsz:(ak.toArray.size != f.toArray.size)=true:=by simp;omega
     exact⟨RcAt.lists_lengths pl.isList C.isList hsz l,RcNeAt.lists_lengths pl.isList C.isList hsz l⟩
   refine⟨?_,L.1,L.2⟩;by_cases hp:p=Q
   .subst hp;rw[Z96 I (n+1) _ _ _ _ _ _ r B e];exact EqAt.same _
   .exact EqAt.of_refs hp L.1
  .cases e;cases cS B;obtain⟨p,vs',_,rfl,hs,P,_⟩:=cB r;cases (show o=Value.ref p from E)
   obtain⟨ak,w1,pl,_⟩:=I.list hs;obtain⟨t',rfl⟩:=vs G;exact⟨EqAt.list_str _ _ pl.isList l,RcAt.list_str _ _ pl.isList l,RcNeAt.list_str _ _ pl.isList l⟩
  .cases e
def fEq(fa fb:En->Aa D):En->Aa Bool:=λac=>match fa ac,fb ac with
 |some x,some y=>eqN 8 x y
 |_,_=>none
def ZbB(neg:Bool)(K:Frag):R2:=λv u H Q=>∃a b f1 f2 k st1 st2,Rep K st1 H a v f1/\Rep K st2 H b u f2/\eqN 8 a b=some k/\Q (.bl (if neg then !k else k)) H
def Z7r(f:X.A.units+8<=cLine):OpR X (compareOp .Eq) (ZbB false X.K):=λaa s σ H x y v u Q I rx ry ⟨a,b,f1,f2,k,st1,st2,r1,r2,e,q⟩ =>
 (Z89 I 8 X.A a b x y v u f1 f2 k f r1 r2 rx ry e).2.1 _ _ _ _ ⟨.bl k,H,I,rfl,q⟩
def Z30(f:X.A.units+8<=cLine):OpR X (compareOp .NotEq) (ZbB true X.K):=λaa s σ H x y v u Q I rx ry ⟨a,b,f1,f2,k,st1,st2,r1,r2,e,q⟩ =>
 (Z89 I 8 X.A a b x y v u f1 f2 k f r1 r2 rx ry e).2.2 _ _ _ _ ⟨.bl (!k),H,I,rfl,q⟩
def oR(e:fEq fa fb ac=some bb):∃x y,fa ac=some x/\fb ac=some y/\eqN 8 x y=some bb:=by
 unfold fEq at e;split at e
 .rename_i x y h1 h2;exact⟨x,y,h1,h2,e⟩
 .cases e
def bR(h:X.A.units+8<=cLine)(f:QE X m1 rs1 a fa)(i:QE X m2 rs2 b fb):QT X (.Compare a [.Eq] [b] ai) (fEq fa fb) :=
 uO (Z7r h) f i (kP _) (λac x y K H v u f1 f2 Q bb e ea eb r1 r2 hK q=>by
  subst hK;obtain⟨l,j,h1,h2,h3⟩:=oR e;rw[ea]at h1;rw[eb]at h2;cases h1;cases h2;exact⟨x,y,f1,f2,bb,_,_,r1,r2,h3,q⟩) λac bb e=>let ⟨x,y,h1,h2,_⟩:=oR e;⟨x,y,h1,h2⟩
def kE(i:X.A.units+8<=cLine)(f:QE X m1 rs1 a fa)(j:QE X m2 rs2 b fb):QT X (.Compare a [.NotEq] [b] ai) (cH (fEq fa fb)) :=
 uO (Z30 i) f j (kP _) (λac x y K H v u f1 f2 Q bb e ea eb r1 r2 hK q=>by
  subst hK;unfold cH at e;cases h:fEq fa fb ac with
  |none=>rw[h]at e;cases e
  |some k =>
   rw[h]at e;cases e;obtain⟨n,l,h1,h2,h3⟩:=oR h;rw[ea]at h1;rw[eb]at h2;cases h1;cases h2;exact⟨x,y,f1,f2,k,_,_,r1,r2,h3,q⟩) λac bb e=>by
  unfold cH at e;cases h:fEq fa fb ac with
  |none=>rw[h]at e;cases e
  |some k=>obtain⟨x,y,h1,h2,_⟩:=oR h;exact⟨x,y,h1,h2⟩
def tV(i:X.A.units+8<=cLine)(f:QE X m1 rs1 a fa)(j:QE X m2 rs2 b fb):QE X m rs (.Compare a [.Eq] [b] ai) (dH (fEq fa fb)) :=
 .mk (B3 (Z7r i) f j (kP _)) λσ H Q ⟨ac,F,d,ok,e,q⟩=>by
  unfold dH at e;cases h:fEq fa fb ac with
  |none=>rw[h]at e;cases e
  |some k =>
   rw[h]at e;cases e;obtain⟨x,y,h1,h2,h3⟩:=oR h;exact two ok h1 h2 λv u H' f1 f2 s r1 r2 _ _=>⟨x,y,f1,f2,k,_,_,r1,r2,h3,q _ _ _ s pW .nil⟩
def ZaN(i:X.A.units+8<=cLine)(f:QE X m1 rs1 a fa)(j:QE X m2 rs2 b fb):QE X m rs (.Compare a [.NotEq] [b] ai) (dH (cH (fEq fa fb))) :=
 .mk (B3 (Z30 i) f j (kP _)) λσ H Q ⟨ac,F,d,ok,e,q⟩=>by
  unfold dH cH at e;cases h:fEq fa fb ac with
  |none=>rw[h]at e;cases e
  |some k =>
   rw[h]at e;cases e;obtain⟨x,y,h1,h2,h3⟩:=oR h;exact two ok h1 h2 λv u H' f1 f2 s r1 r2 _ _=>⟨x,y,f1,f2,k,_,_,r1,r2,h3,q _ _ _ s pW .nil⟩
def tyN:D->Aa String
 | .non=>some "NoneType"
 | .bl _=>some "bool"
 | .int _=>some "int"
 | .str _=>some "str"
 | .tup _=>some "tuple"
 | .lst _=>some "list"
 | .obj _ _ _=>none
 | .dk _ _=>none
 | .exc _=>none
 | .fn _ _ _=>none
def K6(c:String)(d:D):Aa Bool:=(tyN d).map λT=>T==c||(T == "bool" && c == "int")
def Z95{st:Bool}(I:Inv X aa σ H s)(r:Rep X.K st H d v fp)(b:RelV v u)(a:tyN d=some T)
  (e:PySem.W.kitOne X.K (.type T) cc=some k) (h:∀tk,Q (.bool k) { s with toks:=tk }):wpAny (model X.prog X.w) X.A (call (.builtin "isinstance") [u,cc]) Q E s:=by
 cases d with
 |non=>cases a;exact sW I b (by rw[lG r];exact .non) e h
 |bl x=>cases a;exact sW I b (by rw[fW r];exact .bl x) e h
 |int x=>cases a;exact sW I b (by rw[bS r];exact .int x) e h
 |str x=>cases a;exact sW I b (by rw[cS r];exact .str x) e h
 |tup xs =>
  cases a;simp only[Rep]at r;obtain⟨q,vs,rfl,hs,f⟩:=r;cases (show u=Value.ref q from b)
  obtain⟨ak,w1,pl,_⟩:=I.tuple hs;obtain⟨o,h1,h2,_⟩:=pl;exact QaQ PySem.W.kitx_tuple I.kIn ⟨o,h1,h2⟩ e (λz=>nomatch z) h
 |lst xs =>
  cases a;obtain⟨q,vs,_,rfl,hs,f,_⟩:=cB r;cases (show u=Value.ref q from b)
  obtain⟨ak,w1,pl,_⟩:=I.list hs;obtain⟨o,h1,h2,_⟩:=pl.isList;exact QaQ PySem.W.kitx_list I.kIn ⟨o,h1,h2⟩ e (λz=>nomatch z) h
 |obj _ _ _=>cases a
 |dk _ _=>cases a
 |exc _=>cases a
 |fn _ _ _=>cases a
def kX:bootBuiltins "isinstance" = some (.builtin "isinstance"):=by decide +kernel
def xN(y:Gl X "isinstance")(C:X.mg "isinstance" = none)(t:QE X m1 rs1 a fa)(n:Gl X cn)(l:X.mg cn=none)(f:bootBuiltins cn=some (.type c))
  (x:∀d T k,tyN d=some T->K6 c d=some k->PySem.W.kitOne X.K (.type T) (.type c)=some k) (o:cn ≠ "__name__":=by decide) (i:nDb cn:=by decide)
  (he:starEach [a,.Name cn p2] X.env=(false,eval a X.env)::starEach [.Name cn p2] X.env:=by rfl) (j:starEach [.Name cn p2] X.env=(false,eval (.Name cn p2) X.env)::starEach [] X.env:=by rfl) (hpl:(backTo ai (starEach [.Name cn p2] X.env)).any (·.1)=false:=by rfl) :
  QE X m rs (.Call (.Name "isinstance" p) [a,.Name cn p2] [] ai) (λac=>(fa ac).bind λd=>(K6 c d).map .bl) :=
 .mk (L2.pe_callB (r:=λvs H Q=>∃d v fp k st,vs=[v,.ty c]/\Rep X.K st H d v fp/\K6 c d=some k/\Q (.bl k) H)
   (fun aa s σ H xs us Q I w h=>by
    obtain⟨d,v,fp,k,st,rfl,r,hi,q⟩:=h;obtain⟨u,w',rfl,B,A⟩:=Z3I w;cases (show w'=Value.type c from A)
    unfold K6 at hi;cases b:tyN d with
    |none=>rw[b]at hi;cases hi
    |some T=>exact Z95 I r B b (x d T k b (by unfold K6;exact hi)) λtk=>⟨.bl k,H,I.tok tk,rfl,q⟩)
   y C kX (pa_cons t (pa_cons (Z4e (v:=.ty c) n l f rfl o i) pa_nil j) he) (by decide) (by decide) he hpl) λσ H Q ⟨ac,F,d,ok,e,q⟩=>by
  cases h1:fa ac with
  |none=>simp only[h1]at e;cases e
  |some d' =>
   simp only[h1,Qa8]at e;cases h2:K6 c d' with
   |none=>rw[h2]at e;cases e
   |some k =>
    rw[h2]at e;cases e;exact⟨ac,F,d',ok,h1,λv H' fp s r c=>⟨d',v,fp,k,m1,rfl,r,h2,q _ _ _ s pW .nil⟩⟩
def Z7H(K:Frag):∀d T k,tyN d=some T->K6 "list" d=some k->PySem.W.kitOne K (.type T) (.type "list")=some k:=by
 intro d T k h1 h2;unfold K6 at h2;rw[h1]at h2;cases d<;>simp only[tyN,QaO]at h1<;>first|(subst h1;cases h2;rfl)|(cases h1)
def Z4k(K:Frag):∀d T k,tyN d=some T->K6 "str" d=some k->PySem.W.kitOne K (.type T) (.type "str")=some k:=by
 intro d T k h1 h2;unfold K6 at h2;rw[h1]at h2;cases d<;>simp only[tyN,QaO]at h1<;>first|(subst h1;cases h2;rfl)|(cases h1)
def boot_str:bootBuiltins "str" = some (.type "str"):=by decide +kernel
def jU:OpR X (binaryOp .Mult) (rI IntMulOk λi j=>.int (i*j)):=opI λ_ _ _ _ _ _ _ hc q=>PyProof.Rows.mul_int q hc
def W7(i j:Int):Prop:=0<j/\j.natAbs.log2<9000
def eR:OpR X (binaryOp .FloorDiv) (rI W7 λi j=>.int (i/j)):=opI λi j _ _ _ _ _ hc q=>by
 have h1:(0:Int)<j:=hc.1;exact floordiv_int (by omega) (by rw[Int.fdiv_eq_ediv_of_nonneg i (by omega)];exact q) (.inl (PyProof.noPylong_of_log2 hc.2))
def qG(fa fb:En->Aa D):En->Aa D:=λac=>match fa ac,fb ac with
 |some (.lst xs),some (.lst ys)=>if xs.length+ys.length<=1000 then some (.lst (xs++ys)) else none
 |_,_=>none
def mJ(C:QE X true [] a fa)(i:QE X true [] b fb):QE X true [] (.BinOp a .Add b ai) (qG fa fb) :=
 .mk (L2.pe_op Z31 C i) λσ H Q ⟨ac,F,d,ok,e,q⟩=>by
  unfold qG at e;split at e
  .rename_i xs ys h1 h2;split at e
   .rename_i G;cases e;refine⟨ac,F,_,ok,h1,λv H1 f1 s1 r1 c1=>⟨ac,F,_,ok.same s1,h2,λu H2 f2 s2 r2 c2=>?_⟩⟩;have w:=r1.same s2;obtain⟨E,vs,n,rfl,rfl,B,j⟩:=mG w;obtain⟨I,us,r,rfl,rfl,A,f⟩:=mG r2;refine⟨E,I,vs,us,rfl,rfl,B,A,nE (by rw[j.length,f.length];exact G),λp hp=>?_⟩;have l:=c1.2 rfl;have h:=c2.2 rfl;have nd:(n++r).Nodup:=by
     refine Qau.mpr ⟨(Qav.mp l.1).2,(Qav.mp h.1).2,λx hx y hy z=>?_⟩;obtain⟨o,t⟩:=Rep.dom _ _ _ r1 x (Qaa _ hx);rw[z,h.2 y (Qaa _ hy)]at t;cases t
    have fr:∀b∈n++r,H b=none:=λb i=>(Qaf.mp i).elim (λz=>l.2 b (Qaa _ z)) λz=>s1.free (h.2 b (Qaa _ z));exact q _ _ (p::(n++r)) ((s1.trans s2).trans (bV hp)) (mP hp (j.append f)) (mZ (s1.trans s2) hp (j.append f) ⟨λb i=>.inl (fr b i),λ_=>⟨nd,fr⟩⟩)
   .cases e
  .cases e
def oH{α:Type}(nm:Str)(d:α):Ab Str->Ab α->Aa (Ab Str×Ab α)
 |[],[]=>some ([nm],[d])
 |n::ns,x::xs=>if n=nm then some (n::ns,d::xs) else(oH nm d ns xs).map λp=>(n::p.1,x::p.2)
 |_,_=>none
theorem Z1v{K:Frag}{H:Hp}{nm:Str}{d:D}{v:V}{fd:Ab Af}(l:Rep K true H d v fd):∀{ns f:Ab Str}{ds ds':Ab D}{vs:Ab V}{fp:Ab Af},Reps K true H ds vs fp->ns.length=vs.length->oH nm d ns ds=some (f,ds') ->
  ∃i fp2,lH nm v (ns.zip vs)=f.zip i/\f.length=i.length/\Reps K true H ds' i fp2/\(∀b∈fp2,b∈fp\/b∈fd)/\((fp++fd).Nodup->fp2.Nodup)/\f.length<=ns.length+1
 |[],f,[],ds',vs,fp,r,hl,e=>by
  simp only[oH]at e;cases e;simp only[Reps]at r;obtain⟨rfl,rfl⟩:=r;exact⟨[v],fd,rfl,rfl,by simp only[Reps];exact⟨v,[],fd,[],rfl,by simp,l,rfl,rfl⟩,λb hb=>.inr hb,λh=>by simpa using h,by simp⟩
 |n::ns,f,x::xs,ds',vs,fp,r,hl,e=>by
  simp only[Reps]at r;obtain⟨u,us,f1,o,rfl,rfl,C,t⟩:=r;simp only[oH]at e;by_cases j:n=nm
  .rw[if_pos j]at e;cases e;refine⟨v::us,fd++o,by simp[lH,j],by simpa using hl,by simp only[Reps];exact⟨v,us,fd,o,rfl,rfl,l,t⟩,λb hb=>?_,λh=>?_,by simp⟩
   .rcases Qaf.mp hb with z|z
    .exact .inr z
    .exact .inl (Qae _ z)
   .rw[Qau]at h;obtain⟨h1,h2,h3⟩:=h;rw[Qau]at h1;exact Qau.mpr ⟨h2,h1.2.1,λa ha b hb z=>h3 b (Qae _ hb) a ha z.symm⟩
  .rw[if_neg j]at e;cases hq:oH nm d ns xs with
   |none=>rw[hq]at e;cases e
   |some p =>
    rw[hq]at e;cases e;obtain⟨i,fp2,A,B,E,q,w,F⟩:=Z1v l t (by simpa using hl) hq;refine⟨u::i,f1++fp2,by simp[lH,j,A],by simp[B],by simp only[Reps];exact⟨u,i,f1,fp2,rfl,rfl,C,E⟩,λb hb=>?_,λh=>?_,by simp;omega⟩
    .rcases Qaf.mp hb with z|z
     .exact .inl (Qar _ z)
     .exact(q b z).imp (λy=>Qae _ y) id
    .rw[List.append_assoc,Qau]at h;refine Qau.mpr ⟨h.1,w h.2.1,λa ha b hb z=>?_⟩;rcases q b hb with y|y
     .exact h.2.2 a ha b (Qar _ y) z
     .exact h.2.2 a ha b (Qae _ y) z
 |[],_,_::_,_,_,_,_,_,e=>by simp[oH]at e
 |_::_,_,[],_,_,_,_,_,e=>by simp[oH]at e
def spI(K:Frag)(C:Af)(n:Nat)(f:Ab D->Aa D):Sp:=λvs H Q _=>∃x dx H0 us ds d fp,vs=.ref x::us/\H0 x=none/\H0 dx=none/\dx≠x/\H=upd (upd H0 dx (.own x)) x (.ins C dx [])/\ds.length=n/\Reps K false H0 ds us fp/\f ds=some d /\
 ∀H' fp',Same H0 H'->Rep K true H' d (.ref x) fp'->(∀b∈fp',H0 b=none)->fp'.Nodup->Q .non H'
def Z3L{K:Frag}{C:Af}{n:Nat}{f:Ab D->Aa D}{vs:Ab V}{H:Hp}{Q:VK}{E:XK}(h:spI K C n f vs H Q E):vs.length=n+1:=by
 obtain⟨x,dx,H0,us,ds,d,fp,rfl,_,_,_,_,h1,h2,_⟩:=h;rw[Qai,h2.length,h1]
section
variable {X:Cx}{m1:Bool}{rs1:Ab Nat}{e b c:Ag}{es:Ab Ag}{fs:En->Aa (Ab D)}{ai p:Pos}{x:Str}{C:Af}
def Z9k(M:Mk X.K C fA)(G:jK X.prog X.w X.K X.mg X.base CX0 k fA fd ps (spI X.K C n F'))(l:Room (k+1) X.A)(i:Gl X x)(o:X.mg x=some (.ref C))(a:Binds X.K fd ps [])(h:QA X m1 rs1 (e::es) fs)(j:∀ac xs,fs ac=some xs->xs.length=n)
  (f:nDb x:=by decide) (he:sEa e es X.env:=by rfl) (hpl:bTa ai es X.env:=by rfl) :
  QE X true [] (.Call (.Name x p) (e::es) [] ai) (λac=>(fs ac).bind F') :=
 .mk (L2.pe_make M G l i o a .nil Z1y h f he hpl) λσ H Q ⟨ac,F,d,ok,e,q⟩=>by
  cases h1:fs ac with
  |none=>simp only[h1]at e;cases e
  |some xs =>
   simp only[h1,Qa8]at e;refine⟨ac,F,xs,ok,h1,λvs H1 fp s r c x dx hx hdx hne=>⟨x,dx,H1,vs++[],xs,d,fp,rfl,hx,hdx,hne,rfl,j ac xs h1,by rw[QaN];exact Reps.weak _ _ _ r,e,λH' fp' s' r' fr nd=>⟨rfl,q _ H' fp' (s.trans s') r' ⟨λb a=>.inl (s.free (fr b a)),λ_=>⟨nd,λb a=>s.free (fr b a)⟩⟩⟩⟩⟩
end
def Z6q{K:Frag}{P H:Hp}{σ:L2.St}{ac:En}{F:Nat->Ab Af}{i:Nat}{M d':D}{a:Af}{v:V}{o o':HO}(L:Same P H)(G:σ.length=ac.length)(h:EnvS K P H σ ac F)(r:ac[i]?=some (some (true,M)))
  (B:σ[i]?=some (some v)) (l:a∈F i) (E:H a=some o) (J:∀xs,o ≠ .tup xs) (R:∀x u,o ≠ .frz x u) (p:∀st,Rep K st (upd H a o') d' v (F i)):SInv K P (upd H a o') σ (ac.set i (some (true,d'))):=by
 have hi:i<ac.length:=(Qah.mp r).1;obtain⟨O,A,S,q⟩:=h.own i _ r;have t:∀{fp:Ab Af},a∉fp->Kp fp H (upd H a o'):=λN=>Kp.upd E J R N;refine⟨λb o e=>?_,by simp[G],F,λj o d e=>?_,λj d e=>?_⟩
 .have:b≠a:=λz=>by have:=A a l;rw[z,this]at e;cases e
  rw[aY this];exact L _ _ e
 .rw[cW hi]at e;by_cases f:j=i
  .subst f;rw[if_pos rfl]at e;cases e;exact⟨_,B,p false⟩
  .rw[if_neg f]at e;obtain⟨w,h1,h2⟩:=h.ok j o d e;exact⟨w,h1,Rep.keep _ _ _ (t (q j _ f e a l)) h2⟩
 .rw[cW hi]at e;by_cases f:j=i
  .subst f;rw[if_pos rfl]at e;cases e;refine⟨O,A,λw hw=>?_,λk s hk ek b hb=>?_⟩
   .rw[B]at hw;cases hw;exact p true
   .rw[cW hi,if_neg hk]at ek;exact q k s hk ek b hb
  .rw[if_neg f]at e;obtain⟨Q,I,C,y⟩:=h.own j d e;refine⟨Q,I,λw hw=>Rep.keep _ _ _ (t (q j _ f e a l)) (C w hw),λk s hk ek b hb=>?_⟩;rw[cW hi]at ek;by_cases n:k=i
   .subst n;exact y k _ hk r b hb
   .rw[if_neg n]at ek;exact y k s hk ek b hb
theorem Reps.modify{K:Frag}{H:Hp}:∀{ds:Ab D}{vs:Ab V}{fp:Ab Af}{k:Nat}{es:Ab D},Reps K true H ds vs fp->ds[k]?=some (.lst es)->flats es=true->∃a us,vs[k]?=some (.ref a)/\H a=some (.lst us)/\Reps K true H es us []/\a∈fp /\
  (fp.Nodup->∀us' es',Reps K true H es' us' []->Reps K true (upd H a (.lst us')) (ds.set k (.lst es')) vs fp)
 |[],vs,fp,k,es,r,e,hf=>by simp at e
 |d::ds,vs,fp,0,es,r,e,hf=>by
  simp at e;subst e;simp only[Reps]at r;obtain⟨v,us,f1,b,rfl,rfl,i,h⟩:=r;obtain⟨a,ws,g,rfl,rfl,l,o⟩:=mG i;obtain⟨t,w⟩:=Reps.flat _ _ _ hf o;subst t;refine⟨a,ws,rfl,l,o,by simp,λnd us' es' r'=>?_⟩;simp only[List.set_cons_zero,Reps];have f:a∉b:=λz=>by simp at nd;exact nd.1 z
  have j:∀{fp:Ab Af},a∉fp->Kp fp H (upd H a (.lst us')):=λq=>Kp.upd l (by intro xs z;cases z) (by intro x u z;cases z) q;refine⟨.ref a,us,[a],b,rfl,rfl,?_,Reps.keep _ _ _ (j f) h⟩;simp only[Rep];exact⟨a,us',[],rfl,Reps.keep _ _ _ (j (by simp)) r',.inl ⟨rfl,bC⟩⟩
 |d::ds,vs,fp,k+1,es,r,e,hf=>by
  simp only[Reps]at r;obtain⟨v,us,f1,b,rfl,rfl,i,h⟩:=r;obtain⟨a,ws,h1,h2,h3,n,p⟩:=Reps.modify (k:=k) h (by simpa using e) hf;refine⟨a,ws,by simpa using h1,h2,h3,Qae _ n,λnd us' es' r'=>?_⟩;rw[Qau]at nd;simp only[List.set_cons_succ,Reps];have f:a∉f1:=λz=>nd.2.2 a z a n rfl;exact⟨v,us,f1,b,rfl,rfl,Rep.keep _ _ _ (Kp.upd h2 (by intro xs z;cases z) (by intro x u z;cases z) f) i,p nd.2.1 us' es' r'⟩
def Z2O{K:Frag}{st:Bool}{H:Hp}{a:Af}{vs:Ab V}{ds:Ab D}{fp:Ab Af}(b:H a=some (.lst vs))(r:Reps K true H ds vs fp):Rep K st H (.lst ds) (.ref a) (a::fp):=by
 cases st with
 |true=>simp only[Rep];exact⟨a,vs,fp,rfl,r,.inl ⟨rfl,b⟩⟩
 |false=>simp only[Rep];exact⟨a,vs,fp,rfl,Reps.weak _ _ _ r,.inl ⟨rfl,b⟩⟩
structure bB(P:Program)(w:World)(K:Frag)(mg:Str->Option Value)(base:Heap)(x:Str)(dds:List D)(k n:Nat)(F':List D->Option D):Prop where
 ex:∃fA fd ps dvs ds,jK P w K mg base CX0 k fA fd ps (spD K n F')/\mg x=some (.ref fA)/\keepIn K (.ref fA)=true/\Binds K fd ps ds/\Vals dvs ds/\∀H,Reps K false H dds dvs []
def aL(F':Ab D->Aa D)(dds:Ab D)(fs:En->Aa (Ab D)):En->Aa D:=λac=>(fs ac).bind λxs=>F' (xs++dds)
def fB1(F':Ab D->Aa D)(fs:En->Aa (Ab D)):En->Aa D:=λac=>(fs ac).bind F'
def sB1(F':Ab D->Aa (Ab D))(fs:En->Aa (Ab D)):En->Aa (Ab D):=λac=>(fs ac).bind F'
def Zae(c:String)(fa:En->Aa D):En->Aa D:=λac=>(fa ac).bind λd=>(K6 c d).map .bl
inductive NArgs:Nat->(En->Option (List D))->Prop
 |nil:NArgs 0 aF
 |cons {n:Nat}{f:En->Option D}{fs:En->Option (List D)}:NArgs n fs->NArgs (n+1) (aA f fs)
def NArgs.len(h:NArgs n fs):∀ac xs,fs ac=some xs->xs.length=n:=by
 induction h with
 |nil=>intro ac xs e;cases e;rfl
 |cons h ih =>
  intro ac xs e;unfold aA at e;split at e
  .rename_i d ds h1 h2;cases e;rw[Qai,ih ac _ h2]
  .cases e
def ZbI(c:bB X.prog X.w X.K X.mg X.base x dds k n F')(r:Room k X.A)(a:NArgs na fs)(j:na+dds.length=n)(i:QA X m1 rs1 (e::es) fs)(q:Gl X x:=by rfl)
  (b:nDb x:=by decide) (he:sEa e es X.env:=by rfl) (hpl:bTa ai es X.env:=by rfl) :
  QE X true [] (.Call (.Name x p) (e::es) [] ai) (aL F' dds fs):=by
 obtain⟨u,fd,ps,dvs,ds,G,t,o,l,hd,f⟩:=c.ex;exact Z9q G r q t o l hd f i (λac xs h=>by rw[a.len ac xs h];exact j) b he hpl
structure W0(P:Program)(w:World)(K:Frag)(mg:Str->Option Value)(base:Heap)(x:Str)(C:Addr)(k n:Nat)(F':List D->Option D):Prop where
 ex:∃fA fd ps,Mk K C fA/\jK P w K mg base CX0 k fA fd ps (spI K C n F')/\mg x=some (.ref C)/\Binds K fd ps []
def Z44(c:W0 X.prog X.w X.K X.mg X.base x C k n F')(o:Room (k+1) X.A)(a:NArgs n fs)(i:QA X m1 rs1 (e::es) fs)(j:Gl X x:=by rfl)
  (b:nDb x:=by decide) (he:sEa e es X.env:=by rfl) (hpl:bTa ai es X.env:=by rfl) :
  QE X true [] (.Call (.Name x p) (e::es) [] ai) (fB1 F' fs):=by
 obtain⟨q,fd,ps,M,G,f,l⟩:=c.ex;exact Z9k M G o j f l i (λac xs h=>a.len ac xs h) b he hpl
def aW(r:Room k A):A.units+8<=cLine:=by have:=r.un;omega
def kO(i:Nat)(he:QE X true [] e f)(q:X.N[i]?=some x:=by rfl)(o:Vis X.env.scope x:=by first|exact Or.inl rfl|exact Or.inr (Or.inl rfl)|exact Or.inr (Or.inr rfl))(hd:nDb x:=by decide)(l:(x==("__classdict__" : Str))=false:=by decide)
  (j:attributeBase (.Name x p) "append" X.env (eval (.Name x p) X.env)=eval (.Name x p) X.env:=by rfl)
  (n:((backTo cpos (starEach [e] X.env)).all (fun x=>!x.1) && (backToKw cpos (keywordEach [] X.env)).all (fun x=>x.1.isSome)
   && decide (([e]:Ab Ag).length+([]:Ab Keyword).length+(if ([]:Ab Keyword).isEmpty then 0 else 1)<30))=true:=by rfl)
  (h:(apos.endLine==cpos.line)=true:=by rfl) (a:starEach [e] X.env=(false,eval e X.env)::starEach [] X.env:=by rfl) (b:(backTo cpos (starEach [] X.env)).any (·.1)=false:=by rfl)
  (hs:swapsWith (.Call (.Attribute (.Name x p) "append" apos) [e] [] cpos) none ai.line X.env=pure false:=by rfl) :
  QS X (.Expr (.Call (.Attribute (.Name x p) "append" apos) [e] [] cpos) ai) (kD i f) :=
 Z5j q o he hd l a (hpe:=S6 Qbw PySem.F.slot_list_append PySem.F.type_list_append sR (mL q o hd l) (pa_cons he pa_nil a) j n h a b) (hs:=hs)
def lA(i:Nat):En->Res:=λac=>match ac[i]? with|some (some (true,d))=>.ret d|_=>.bad
def gQ:QE X m rs (.UnaryOp .USub (.Constant (.int i) k pp) ai) (fC (.int (-i))) :=
 .mk (pe_un Z6t L2.pe_int) λσ H Q ⟨ac,F,d,ok,e,q⟩=>by cases e;exact⟨i,rfl,q _ _ _ (Same.refl H) eY .nil⟩
def FunD.raw{P:Aj}{w:Ak}{K:Frag}{mg:Str->Aa Ad}{ad:Ah}{x ah:Str}{st:Stmt}{f:Af}{fd:FuncData}{N ps:Ab Str}{k:Nat}{sp:Sp}(F:FunD K x ah st f fd)(S:fL N ps (aS st))(len:∀vs H Q E,sp vs H Q E->vs.length=ps.length)
  (b:∀ (a:Ad) (A:Ai) (af:Ab Env) (s:Ac) (H:Hp) (vs:Ab V) (Q:VK) (E:XK),Room k (A.deeper (envOfC ah (aS st) s.heap.objs.size f a))->sp vs H Q E ->
   ∃t,PSs (yK CX0 P w K mg ad N ah (aS st) f a A af s H E).nox (cN st) t/\t { nx:=λ_ H'=>Q .non H',rt:=Q } (L2.start N vs) H):jK P w K mg ad CX0 (k+1) f fd ps sp:=by
 obtain⟨o,p,r,kV,l,u,an,a,ct,n,rfl,j,i⟩:=F.ex;refine Z1V j i S len λA af s H vs Q E hr hsp=>?_;obtain⟨t,h,q⟩:=b a A af s H vs Q E hr hsp;exact⟨t,h.nox,q⟩
def Zdf{K:Frag}{C x dx:Af}{H0:Hp}{σ:L2.St}{us:Ab V}{ds:Ab D}{fp:Ab Af}{i j l:Str}{f1 f2 f3:En->Aa D}{ac:En}{Q U N:D}{E:yP}{F:Nat->Ab Af}
  (R:H0 x=none) (L:H0 dx=none) (B:dx≠x) (ok:EnvOk K H0 σ ac F) (S:σ[0]?=some (some (.ref x))) (e1:f1 ac=some Q) (e2:f2 ac=some U) (e3:f3 ac=some N)
  (W:Cls K C) (a1:NoAttr K C i) (a2:NoAttr K C j) (a3:NoAttr K C l) (k12:¬i=j) (k13:¬i=l) (k23:¬j=l)
  (q:∀H' fp',Same H0 H'->Rep K true H' (.obj C [i,j,l] [Q,U,N]) (.ref x) fp'->(∀b∈fp',H0 b=none)->fp'.Nodup->E.nx σ H') :
  Zba (Z6Q K (X1 0) (tD K true [] f1) i) (Zba (Z6Q K (X1 0) (tD K true [] f2) j) (Z6Q K (X1 0) (tD K true [] f3) l)) E σ (upd (upd H0 dx (.own x)) x (.ins C dx [])):=by
 have X:upd H0 dx (.own x) x=none:=by rw[aY (Ne.symm B)];exact R
 have s0:Same H0 (upd (upd H0 dx (.own x)) x (.ins C dx [])):=(bV L).trans (bV X);have G:∀{p P:Hp}{o:HO},Same H0 p->Same p P->Same H0 (upd P x o):=λ{p P o} sa sb b u e=>by
  rw[aY (bL e R)];exact sb _ _ (sa _ _ e)
 have p1:∀y1:V,lH i y1 []=[(i,y1)]:=λ_=>rfl;have p2:∀y1 y2:V,lH j y2 [(i,y1)]=[(i,y1),(j,y2)]:=λy1 y2=>by simp[lH,k12]
 have p3:∀y1 y2 y3:V,lH l y3 [(i,y1),(j,y2)]=[(i,y1),(j,y2),(l,y3)]:=λy1 y2 y3=>by simp[lH,k13,k23]
 refine⟨ac,F,Q,ok.same s0,e1,λy1 H1 g1 s1 r1 c1=>⟨.ref x,S,x,C,dx,[],rfl,s1 _ _ bC,W,a1,by show 0<1000;decide,?_⟩⟩;rw[p1];have S1:Same H0 (upd H1 x (.ins C dx [(i,y1)])):=G s0 s1;refine⟨ac,F,U,ok.same S1,e2,λy2 H2 g2 s2 r2 c2=>⟨.ref x,S,x,C,dx,[(i,y1)],rfl,s2 _ _ bC,W,a2,by show 1<1000;decide,?_⟩⟩;rw[p2];have T:Same H0 (upd H2 x (.ins C dx [(i,y1),(j,y2)])):=G S1 s2;refine⟨ac,F,N,ok.same T,e3,λy3 H3 g3 s3 r3 c3=>⟨.ref x,S,x,C,dx,[(i,y1),(j,y2)],rfl,s3 _ _ bC,W,a3,by show 2<1000;decide,?_⟩⟩;rw[p3];have S3:Same H0 (upd H3 x (.ins C dx [(i,y1),(j,y2),(l,y3)])):=G T s3;have x1:H1 x=some (.ins C dx []):=s1 _ _ bC;have x2:H2 x=some (.ins C dx [(i,y1)]):=s2 _ _ bC;have M:H3 x=some (.ins C dx [(i,y1),(j,y2)]):=s3 _ _ bC;have y:=c1.2 rfl;have v:=c2.2 rfl;have r:=c3.2 rfl;have w:x∉g1:=λz=>by have:=y.2 x z;rw[bC]at this;cases this
 have H:x∉g2:=λz=>by have:=v.2 x z;rw[bC]at this;cases this
 have J:x∉g3:=λz=>by have:=r.2 x z;rw[bC]at this;cases this
 have A:∀{p:Hp}{o o':HO}{fp:Ab Af},p x=some o->(∀xs,o ≠ .tup xs)->(∀a b,o ≠ .frz a b)->x∉fp->Kp fp p (upd p x o'):=λh m f n=>Kp.upd h m f n;have R1:=Rep.keep _ _ _ (A (o':=.ins C dx [(i,y1)]) x1 (by intro xs z;cases z) (by intro a b z;cases z) w) r1;have I:=Rep.keep _ _ _ (A (o':=.ins C dx [(i,y1),(j,y2)]) x2 (by intro xs z;cases z) (by intro a b z;cases z) w) (R1.same s2);have O:=Rep.keep _ _ _ (A (o':=.ins C dx [(i,y1),(j,y2),(l,y3)]) M (by intro xs z;cases z) (by intro a b z;cases z) w) (I.same s3);have R2:=Rep.keep _ _ _ (A (o':=.ins C dx [(i,y1),(j,y2)]) x2 (by intro xs z;cases z) (by intro a b z;cases z) H) r2;have R2':=Rep.keep _ _ _ (A (o':=.ins C dx [(i,y1),(j,y2),(l,y3)]) M (by intro xs z;cases z) (by intro a b z;cases z) H) (R2.same s3);have R3:=Rep.keep _ _ _ (A (o':=.ins C dx [(i,y1),(j,y2),(l,y3)]) M (by intro xs z;cases z) (by intro a b z;cases z) J) r3;have dd:∀{p:Hp}{o:HO},p dx=some (.own x)->upd p x o dx=some (.own x):=λh=>by rw[aY B];exact h
 have dz:upd (upd H0 dx (.own x)) x (.ins C dx []) dx=some (.own x):=dd bC;have D1:=s1 _ _ dz;have D2:=s2 _ _ (dd (o:=.ins C dx [(i,y1)]) D1);have D3:=s3 _ _ (dd (o:=.ins C dx [(i,y1),(j,y2)]) D2);have nd1:dx∉g1:=λz=>by have:=y.2 dx z;rw[dz]at this;cases this
 have Y:dx∉g2:=λz=>by have:=v.2 dx z;rw[dd D1]at this;cases this
 have nd3:dx∉g3:=λz=>by have:=r.2 dx z;rw[dd D2]at this;cases this
 have Z:∀a∈g1,∀b∈g2,a≠b:=λa ha b hb z=>by
  obtain⟨o,t⟩:=Rep.dom _ _ _ R1 a ha;rw[z,v.2 b hb]at t;cases t
 have d13:∀a∈g1,∀b∈g3,a≠b:=λa ha b hb z=>by
  obtain⟨o,t⟩:=Rep.dom _ _ _ I a ha;rw[z,r.2 b hb]at t;cases t
 have d23:∀a∈g2,∀b∈g3,a≠b:=λa ha b hb z=>by
  obtain⟨o,t⟩:=Rep.dom _ _ _ R2 a ha;rw[z,r.2 b hb]at t;cases t
 refine q _ (x::dx::(g1++(g2++(g3++[])))) S3 ?_ (λb hb=>?_) ?_
 .simp only[Rep,Reps];exact⟨x,dx,[y1,y2,y3],g1++(g2++(g3++[])),rfl,rfl,bC,dd D3,rfl,y1,[y2,y3],g1,_,rfl,rfl,O,y2,[y3],g2,_,rfl,rfl,R2',y3,[],g3,[],rfl,rfl,R3,rfl,rfl⟩
 .rcases Qab.mp hb with z|z
  .rw[z];exact R
  .rcases Qab.mp z with z|z
   .rw[z];exact L
   rw[QaN]at z;rcases Qaf.mp z with z|z
   .exact s0.free (y.2 b z)
   .rcases Qaf.mp z with z|z
    .exact S1.free (v.2 b z)
    .exact T.free (r.2 b z)
 .rw[QaN];refine Qav.mpr ⟨λz=>?_,Qav.mpr ⟨λz=>?_,Qau.mpr ⟨y.1,Qau.mpr ⟨v.1,r.1,d23⟩,λa ha b hb=>?_⟩⟩⟩
  .rcases Qab.mp z with z|z
   .exact B z.symm
   rcases Qaf.mp z with z|z
   .exact w z
   .rcases Qaf.mp z with z|z
    .exact H z
    .exact J z
  .rcases Qaf.mp z with z|z
   .exact nd1 z
   .rcases Qaf.mp z with z|z
    .exact Y z
    .exact nd3 z
  .rcases Qaf.mp hb with z|z
   .exact Z a ha b z
   .exact d13 a ha b z
end PD
namespace Att
open PySem PySem.W PySem.Calls PyProof.Rows
theorem qJ:∀{ns:Ab Int}{i:Int},i∈ns->WData.weight (.int i)<=WData.weightAll (ns.map WData.int)
 |[],i,h=>nomatch h
 |n::ns,i,h=>by
  simp only[Qan,WData.weightAll];rcases Qab.mp h with z|z
  .subst z;omega
  .have:=qJ z;omega
def Z2m{ns:Ab Int}(h:WData.layableAll [WData.list (ns.map WData.int)]=true):∀i∈ns,Builtin.Int.intBits i<=1048576:=λi hi=>by
 simp only[WData.layableAll,List.all_cons,List.all_nil,Qa4,WData.layable,Qak,Rj,WData.weight]at h;have h1:=qJ hi;have h2:WData.weight (.int i)=Builtin.Int.intBits i:=by simp only[WData.weight,Builtin.Int.intBits]
 rw[h2]at h1;have h3:WData.weightAll (List.map WData.int ns)<=2^20:=of_decide_eq_true h.2;exact Qay h1 h3
def attach_callB{l:OpenLaw}
  (L:l.most=some n) (C:d.params.defaults=[])
  (call:∀ (w:Ak) (s₀ s₁:Ac) (mg x:Str->Aa Ad) (fa:Af) (o:Obj) (v cd b:Ad) (a:Af) (vs:Ab Ad) (ns:Ab Int),
   (∀i∈ns,Builtin.Int.intBits i<=1048576)->Ground q loose [] XP w s₀ mg x s₁.heap->YP w s₁.heap ->
   s₁.heap.get? fa=some o->o.data=.func (docDef d.name d.params d.body d.scope v cd b)->s₁.heap.CodeRec cd d.name->mg d.name=some (.ref fa) ->
   s₁.heap.get? a=some { cls:=.type "list",data:=.seq vs.toArray }->IntsAre vs ns->ns.length<=n->s₁.gens = #[] ->
   codeAny (model l.prog w) callerA (.call (.ref fa) ⟨[.ref a],[]⟩) (λr s'=>r=.ok (.ret (.bool true))/\OldK s₁.heap s'.heap/\s'.os=s₁.os/\AllBare s'.gens) s₁) :
  WalkO q loose XP YP l.row.toRowW d [] (λf vs=>PySem.call f vs):=by
 intro w s₀ s₁ mg x G Y fa o v cd b J kV F hd A B y K args H O t u M E N;obtain rfl:J=.none:=Dflts.none B C;obtain rfl:kV=.none:=Dflts.noKw B;obtain⟨a,vs,ns,rfl,rfl,p,h,j⟩:=Z53 L t E;refine enter_call (codeAny_mono (call w s₀ s₁ mg x fa o v cd b a vs ns (Z2m u) G Y F (fd_plain hd) A y p h j K) λr s' hq=>?_);obtain⟨rfl,h2,h3,I⟩:=hq;exact⟨.inl ⟨.bool true,.bool true,[],rfl,λ_=>rfl,.bool true,Z5o l _,λ_=>⟨List.Pairwise.nil,λ_ hm=>(nomatch hm)⟩⟩,h2,h3,I⟩
end Att
namespace PD
open PySem PySem.Spec PyProof.Rows L2
theorem sJ{K:Frag}{st:Bool}:∀(ns:Ab Int),Reps K st H (ns.map D.int) (ns.map V.int) []
 |[]=>by simp only[Qa5,Reps];exact⟨trivial,trivial⟩
 |n::ns=>by simp only[Qan,Reps];exact⟨.int n,ns.map V.int,[],[],rfl,rfl,eY,sJ ns⟩
def walkD{l:PySem.W.OpenLaw}{K:Params->Frag}
  (A:l.most=some n) (p:n<=sizeLine) (t:d.params.defaults=[]) (E:Room k callerA)
  (C:∀(w:Ak) (h:Ah),YP w h->(K w.params).In h)
  (F:∀ (w:Ak) (mg:Str->Aa Ad) (fa:Af) (h:Ah),(K w.params).In h->h.Ns mainGlobals mg->mg d.name=some (.ref fa) ->
   ∃(fd:FuncData) (m:Ab D->Aa D),(∀(s:Ac) (u:Ad),BindsTo s fd ⟨[u],[]⟩ [(x,u)])/\(∀ns:Ab Int,ns.length<=n->(∀i∈ns,Builtin.Int.intBits i<=1048576)->m [.lst (ns.map D.int)]=some (.bl true)) /\
    ∀ad:Ah,(K w.params).In ad->ad.Ns mainGlobals mg->jK l.prog w (K w.params) mg ad CX0 k fa fd [x] (spD (K w.params) 1 m)) :
  PySem.W.WalkO q loose XP YP l.row.toRowW d [] (λf vs=>PySem.call f vs):=by
 refine Att.attach_callB A t λw s₀ s₁ mg mb fa o pm cd doc a vs ns hbits G Y ho hd hcd hmg hobj hints hlen hg=>?_;have y:=C w _ Y;obtain⟨fd,m,B,I,hF⟩:=F w mg fa _ y G.T.g hmg;refine Z7E y G.T.g G.T.b G.T.builtins G.T.nolimit hg hobj hints (Qay hlen p) E hF B (λH hO hS=>?_) λH e s' z=>z;have j:∃fp,Reps (K w.params) false H [.lst (ns.map D.int)] [.ref a] fp:=by
  rcases Z6B hS with z|z
  .refine⟨[a],?_⟩;simp only[Reps,Rep];exact⟨.ref a,[],[a],[],rfl,rfl,⟨a,_,[],rfl,sJ ns,.inl ⟨rfl,z⟩⟩,rfl,rfl⟩
  .refine⟨[],?_⟩;simp only[Reps,Rep];exact⟨.ref a,[],[],[],rfl,rfl,⟨a,_,[],rfl,sJ ns,.inr ⟨trivial,rfl,z⟩⟩,rfl,rfl⟩
 obtain⟨fp,j⟩:=j;exact⟨_,_,fp,rfl,j,I ns hlen hbits,λv H' fp' _ r _ _=>fW r⟩
def Z2u(i j:Int):Prop:=0<=j/\(Builtin.Int.intBits i:Int)+j<=2^27
def B4:OpR X (binaryOp .LShift) (rI Z2u λi j=>.int (i*2^j.toNat)):=opI λ_ _ _ _ _ _ _ hc q=>PyProof.Rows.lshift_int hc.1 hc.2 q
def Zam(h:Builtin.Int.intBits i<=n)(a:0<=j)(h1:(n:Int)+j<=100000000):Z2u i j:=by
 have e:(2:Int)^27=134217728:=by decide
 refine⟨a,?_⟩;rw[e];omega
def ZaY(a:0<=j)(h1:j<=1000000):Z2u 1 j:=Zam (n:=64) (PySem.intBits_le_64 (by decide) (by decide)) a (by omega)
def qp(h:QE X true [] e f):QE X true [] e f:=h
open PySem PySem.Spec PyProof.Rows L2 PySem.SeqAt
section
variable {X:Cx}{aa:Ab (Af×Obj)}{σ:L2.St}{H:Hp}{s:Ac}
def Z8a(I:Inv X aa σ H s):∀(n:Nat) (a b x:D) (v:V) (f1 l:Ab Af) (k k':Bool),Rep X.K st1 H a v f1->Rep X.K st2 H b v l->eqN n a x=some k->eqN n b x=some k'->k=k':=by
 intro n
 induction n with
 |zero=>intro a b x v f1 l k k' _ _ e;simp[eqN]at e
 |succ n ih =>
  have w:∀(xs ys o:Ab D) (vs:Ab V) (f1 l:Ab Af) (k k':Bool),Reps X.K st1 H xs vs f1->Reps X.K st2 H ys vs l->eqL (eqN n) xs o=some k->eqL (eqN n) ys o=some k'->k=k':=by
   intro xs
   induction xs with
   |nil =>
    intro ys o vs f1 l k k' q p e f;have l1:=q.length;have l2:=p.length;have:ys=[]:=by rw[<- QaM,<- l2,l1];rfl
    subst this;rw[e]at f;cases f;rfl
   |cons x xs ihx =>
    intro ys o vs f1 l k k' q p e f;cases ys with
    |nil =>
     have l1:=q.length;have l2:=p.length;rw[l1]at l2;simp at l2
    |cons y ys =>
     cases o with
     |nil=>simp only[eqL]at e f;cases e;cases f;rfl
     |cons z o =>
      simp only[Reps]at q p;obtain⟨v,us,O,P,rfl,_,G,F⟩:=q;obtain⟨M,L,Q,N,t,_,J,E⟩:=p;cases t;simp only[eqL]at e f;split at e
      .rename_i c d h1 h2;cases e;split at f
       .rename_i c' d' u B;cases f;rw[ih _ _ _ _ _ _ _ _ G J h1 u,ihx _ _ _ _ _ _ _ F E h2 B]
       .cases f
      .cases e
  intro a b x v f1 l k k' i j e f;have ls:∀{xs z st st' g g'},Rep X.K st H (.lst xs) v g->Rep X.K st' H (.str z) v g'->False:=λh h'=>by
   obtain⟨_,_,_,z,_⟩:=cB h;cases z.symm.trans (cS h')
  unfold eqN eqK at e f;split at e<;>split at f<;>(try cases ‹(_:D)=_›)<;>try (first
   |(cases e;done)|(cases f;done)
   |(cases e;cases f;cases (fW i).symm.trans (fW j);rfl)
   |(cases e;cases f;cases (bS i).symm.trans (bS j);rfl)
   |(cases e;cases f;cases (cS i).symm.trans (cS j);rfl)
   |(cases (lG i).symm.trans (bS j);done)
   |(cases (bS i).symm.trans (lG j);done)
   |exact(ls i j).elim|exact(ls j i).elim
   |(cases e;cases f;rfl))
  obtain⟨_,vs,_,rfl,hs,C,_⟩:=cB i;obtain⟨_,_,_,t,A,r,_⟩:=cB j;cases t;obtain rfl:=I.list_inj hs A;rw[<- r.length]at f;rw[<- C.length]at e;split at e
  .rw[if_pos ‹_›]at f;exact w _ _ _ _ _ _ _ _ C r e f
  .rw[if_neg ‹_›]at f;cases e;cases f;rfl
end
def inD(x:D):Ab D->Aa Bool
 |[]=>some false
 |y::ys=>match eqN 8 y x,inD x ys with
  |some a,some b=>some (a||b)
  |_,_=>none
theorem Z0m:∀{ys:Ab D}{k:Bool},inD x ys=some k->(∀(i:Nat) (y:D),ys[i]?=some y->∃c,eqN 8 y x=some c)/\(k=true↔∃(i:Nat) (y:D),ys[i]?=some y/\eqN 8 y x=some true)
 |[],k,h=>by simp only[inD]at h;cases h;exact⟨λi y e=>by simp at e,by simp⟩
 |y::ys,k,h=>by
  simp only[inD]at h;split at h
  .rename_i a b h1 h2;cases h;obtain⟨l,n⟩:=Z0m h2;refine⟨λi z e=>?_,?_⟩
   .cases i with
    |zero=>simp at e;subst e;exact⟨a,h1⟩
    |succ i=>exact l i z (by simpa using e)
   .rw[Bool.or_eq_true,n];constructor
    .rintro (z|⟨i,z,f,j⟩)
     .exact⟨0,y,rfl,by rw[h1,z]⟩
     .exact⟨i+1,z,by simpa using f,j⟩
    .rintro⟨i,z,f,j⟩;cases i with
     |zero=>simp at f;subst f;rw[h1]at j;cases j;exact .inl rfl
     |succ i=>exact .inr ⟨i,z,by simpa using f,j⟩
  .cases h
def Z4m(I:Inv X aa σ H s){A:Ai}{x:D}{ys:Ab D}{v:V}{vs:Ab V}{u:Ad}{ak:Ab Ad}{f g:Ab Af}{k:Bool}(L:A.units+8<=cLine)(N:Rep X.K st1 H x v f)(G:RelV v u)(r:Reps X.K st2 H ys vs g)(w:Vals vs ak)(h:inD x ys=some k) :
  ∃e:Ad->Bool,(∀y∈ak,EqAt A s y u (e y))/\∀(i:Nat) (y:Ad) (z:D) (c:Bool),ak[i]?=some y->ys[i]?=some z->eqN 8 z x=some c->e y=c:=by
 obtain⟨h1,_⟩:=Z0m h
 classical
 have b:∀(i:Nat) (y:Ad),ak[i]?=some y->∃(z:D) (a:V) (fz:Ab Af),ys[i]?=some z/\Rep X.K st2 H z a fz/\RelV a y:=by
  intro i y e;have hi:i<ak.length:=(Qah.mp e).1;have l1:=r.length;have l2:=w.length;have n:i<ys.length:=by omega
  obtain⟨a,fz,p,o,_⟩:=r.get (Qam n);obtain⟨U,c1,c2⟩:=w.get p;rw[e]at c1;cases c1;exact⟨_,a,fz,Qam n,o,c2⟩
 let e:Ad->Bool:=λy=>decide (∃(i:Nat) (z:D),ak[i]?=some y/\ys[i]?=some z/\eqN 8 z x=some true)
 have q:∀(i:Nat) (y:Ad) (z:D) (c:Bool),ak[i]?=some y->ys[i]?=some z->eqN 8 z x=some c->e y=c:=by
  intro i y z c p o B;by_cases l:∃(i:Nat) (z:D),ak[i]?=some y/\ys[i]?=some z/\eqN 8 z x=some true
  .have:e y=true:=Ri l;rw[this];obtain⟨j,Z,R,J,F⟩:=l;obtain⟨S,Q,W,c1,c2,t⟩:=b i y p;obtain⟨T,M,Y,C,P,O⟩:=b j y R;rw[o]at c1;cases c1;rw[J]at C;cases C;have E:Q=M:=RelV.inj t O;subst E;exact(Z8a I 8 _ _ _ _ _ _ _ _ P c2 F B)
  .have:e y=false:=Rh l;rw[this];cases c with
   |false=>rfl
   |true=>exact absurd ⟨i,z,p,o,B⟩ l
 refine⟨e,λy n=>?_,?_⟩
 .obtain⟨i,hi⟩:=List.getElem?_of_mem n;obtain⟨z,a,g,c1,c2,t⟩:=b i y hi;obtain⟨c,hc⟩:=h1 i z c1;rw[q i y z c hi c1 hc];exact(Z89 I 8 A z x a v y u g f c L c2 N t G hc).1
 .exact q
def Z0l(I:Inv X aa σ H s){A:Ai}{x:D}{ys:Ab D}{v:V}{vs:Ab V}{u:Ad}{ak:Ab Ad}{f g:Ab Af}{k:Bool}(t:A.units+8<=cLine)(o:Rep X.K st1 H x v f)(p:RelV v u)(r:Reps X.K st2 H ys vs g)(w:Vals vs ak)(h:inD x ys=some k) :
  ∃e:Ad->Bool,(∀y∈ak,EqAt A s y u (e y))/\ak.any e=k:=by
 obtain⟨e,q,a⟩:=Z4m I t o p r w h;obtain⟨h1,h2⟩:=Z0m h;have l1:=r.length;have l2:=w.length;refine⟨e,q,?_⟩;rw[QaU,List.any_eq_true,h2];constructor
 .rintro⟨y,b,he⟩;obtain⟨i,hi⟩:=List.getElem?_of_mem b;have b:i<ys.length:=by have:=(Qah.mp hi).1;omega
  have j:=Qam b;obtain⟨c,hc⟩:=h1 i _ j;exact⟨i,_,j,by rw[hc,<- a i y _ c hi j hc,he]⟩
 .rintro⟨i,z,l,n⟩;have hi:i<ak.length:=by have:=(Qah.mp l).1;omega
  exact⟨ak[i],Qbr hi,by rw[a i _ z true (Qam hi) l n]⟩
def inF:D->D->Aa Bool
 |x,.lst ys=>inD x ys
 |x,.tup ys=>inD x ys
 | .str i,.str j=>some (!(Builtin.Str.occurrences j i 0 j.length 1).isEmpty)
 |_,_=>none
def fIn(fa fb:En->Aa D):En->Aa Bool:=λac=>match fa ac,fb ac with
 |some x,some y=>inF x y
 |_,_=>none
def ZcY(neg:Bool)(K:Frag):R2:=λv u H Q=>∃a b f1 f2 k st1 st2,Rep K st1 H a v f1/\Rep K st2 H b u f2/\inF a b=some k/\Q (.bl (if neg then !k else k)) H
def Z7q(t:X.A.units+9<=cLine):OpR X (compareOp .In) (ZcY false X.K):=by
 rintro aa s σ H x y v u Q I rx ry ⟨a,b,f1,f2,k,st1,st2,r1,r2,e,q⟩;cases b with
 |lst ys =>
  obtain⟨p,vs,_,rfl,hs,h,_⟩:=cB r2;cases ry;obtain⟨ak,w,pl,r⟩:=I.list hs;obtain⟨f,h1,h2⟩:=Z0l (A:=X.A.in1) I (by rw[mC];omega) r1 rx h w (show inD a ys=some k from e)
  refine SeqAt.in_listAt f pl.isList (λy hy=>h1 y (by simpa using hy)) ⟨.bl _,H,I,rfl,?_⟩;rw[show ak.toArray.any f=ak.any f by simp,h2];exact q
 |tup ys =>
  simp only[Rep]at r2;obtain⟨p,vs,rfl,hs,h⟩:=r2;cases ry;obtain⟨ak,w,pl,r⟩:=I.tuple hs;obtain⟨f,h1,h2⟩:=Z0l (A:=X.A.in1) I (by rw[mC];omega) r1 rx h w (show inD a ys=some k from e)
  refine SeqAt.in_tupleAt f pl (λy hy=>h1 y (by simpa using hy)) ⟨.bl _,H,I,rfl,?_⟩;rw[show ak.toArray.any f=ak.any f by simp,h2];exact q
 |str j =>
  cases a with
  |str i =>
   have l:=cS r1;have n:=cS r2;subst l n;have o:k=_:=(QaF e).symm;subst o;exact Z5x aa s σ H _ _ v u Q I rx ry ⟨i,j,rfl,rfl,q⟩
  |_=>simp only[inF]at e;cases e
 |_=>cases a<;>(simp only[inF]at e;cases e)
def Z5w(t:X.A.units+9<=cLine):OpR X (compareOp .NotIn) (ZcY true X.K):=by
 rintro aa s σ H x y v u Q I rx ry ⟨a,b,f1,f2,k,st1,st2,r1,r2,e,q⟩;cases b with
 |lst ys =>
  obtain⟨p,vs,_,rfl,hs,h,_⟩:=cB r2;cases ry;obtain⟨ak,w,pl,r⟩:=I.list hs;obtain⟨f,h1,h2⟩:=Z0l (A:=X.A.in1) I (by rw[mC];omega) r1 rx h w (show inD a ys=some k from e)
  refine SeqAt.notIn_listAt f pl.isList (λy hy=>h1 y (by simpa using hy)) ⟨.bl _,H,I,rfl,?_⟩;rw[show ak.toArray.any f=ak.any f by simp,h2];exact q
 |tup ys =>
  simp only[Rep]at r2;obtain⟨p,vs,rfl,hs,h⟩:=r2;cases ry;obtain⟨ak,w,pl,r⟩:=I.tuple hs;obtain⟨f,h1,h2⟩:=Z0l (A:=X.A.in1) I (by rw[mC];omega) r1 rx h w (show inD a ys=some k from e)
  refine SeqAt.notIn_tupleAt f pl (λy hy=>h1 y (by simpa using hy)) ⟨.bl _,H,I,rfl,?_⟩;rw[show ak.toArray.any f=ak.any f by simp,h2];exact q
 |str j =>
  cases a with
  |str i =>
   have l:=cS r1;have n:=cS r2;subst l n;have o:k=_:=(QaF e).symm;subst o;exact Z07 aa s σ H _ _ v u Q I rx ry ⟨i,j,rfl,rfl,q⟩
  |_=>simp only[inF]at e;cases e
 |_=>cases a<;>(simp only[inF]at e;cases e)
def rQ(e:fIn fa fb ac=some bb):∃x y,fa ac=some x/\fb ac=some y/\inF x y=some bb:=by
 unfold fIn at e;split at e
 .rename_i x y h1 h2;exact⟨x,y,h1,h2,e⟩
 .cases e
def Z1o(h:X.A.units+9<=cLine)(f:QE X m1 rs1 a fa)(i:QE X m2 rs2 b fb)(j:behindInMarks .In b=false:=by with_unfolding_all rfl):QT X (.Compare a [.In] [b] ai) (fIn fa fb) :=
 uO (Z7q h) f i j (λac x y K H v u f1 f2 Q bb e ea eb r1 r2 hK q=>by
  subst hK;obtain⟨n,l,h1,h2,h3⟩:=rQ e;rw[ea]at h1;rw[eb]at h2;cases h1;cases h2;exact⟨x,y,f1,f2,bb,_,_,r1,r2,h3,q⟩) λac bb e=>let ⟨x,y,h1,h2,_⟩:=rQ e;⟨x,y,h1,h2⟩
def F5(i:X.A.units+9<=cLine)(f:QE X m1 rs1 a fa)(j:QE X m2 rs2 b fb)(l:behindInMarks .NotIn b=false:=by with_unfolding_all rfl):QT X (.Compare a [.NotIn] [b] ai) (cH (fIn fa fb)) :=
 uO (Z5w i) f j l (λac x y K H v u f1 f2 Q bb e ea eb r1 r2 hK q=>by
  subst hK;unfold cH at e;cases h:fIn fa fb ac with
  |none=>rw[h]at e;cases e
  |some k =>
   rw[h]at e;cases e;obtain⟨o,n,h1,h2,h3⟩:=rQ h;rw[ea]at h1;rw[eb]at h2;cases h1;cases h2;exact⟨x,y,f1,f2,k,_,_,r1,r2,h3,q⟩) λac bb e=>by
  unfold cH at e;cases h:fIn fa fb ac with
  |none=>rw[h]at e;cases e
  |some k=>obtain⟨x,y,h1,h2,_⟩:=rQ h;exact⟨x,y,h1,h2⟩
def Z45(i:X.A.units+9<=cLine)(f:QE X m1 rs1 a fa)(j:QE X m2 rs2 b fb)(l:behindInMarks .In b=false:=by with_unfolding_all rfl):QE X m rs (.Compare a [.In] [b] ai) (dH (fIn fa fb)) :=
 .mk (B3 (Z7q i) f j l) λσ H Q ⟨ac,F,d,ok,e,q⟩=>by
  unfold dH at e;cases h:fIn fa fb ac with
  |none=>rw[h]at e;cases e
  |some k =>
   rw[h]at e;cases e;obtain⟨x,y,h1,h2,h3⟩:=rQ h;exact two ok h1 h2 λv u H' f1 f2 s r1 r2 _ _=>⟨x,y,f1,f2,k,_,_,r1,r2,h3,q _ _ _ s pW .nil⟩
def nG(r:Room k A):A.units+9<=cLine:=by have:=r.un;omega
def whD(c:En->Aa Bool)(g:En->Res):Nat->En->Res
 |0,_=>.bad
 |n+1,ac=>match c ac with
  |some false=>.next ac
  |some true=>match g ac with
   | .next e=>whD c g n e
   | .cont e=>whD c g n e
   | .brk e=>.next e
   | .ret d=>.ret d
   | .bad=>.bad
  |none=>.bad
theorem C4:∀{n:Nat}{ac:En},whD c g n ac ≠ .bad->whD c g (n+1) ac=whD c g n ac
 |0,ac,h=>absurd rfl h
 |n+1,ac,h=>by
  unfold whD at h ⊢;cases hc:c ac with
  |none=>rfl
  |some b =>
   cases b with
   |false=>rfl
   |true =>
    rw[hc]at h;simp only at h ⊢;cases a:g ac with
    |next e=>rw[a]at h;exact C4 h
    |cont e=>rw[a]at h;exact C4 h
    |brk e=>rfl
    |ret d=>rfl
    |bad=>rfl
theorem Z2x(h:whD c g n ac ≠ .bad):∀k,whD c g (n+k) ac=whD c g n ac
 |0=>rfl
 |k+1=>by
  have a:=Z2x h k;rw[show n+(k+1)=n+k+1 by omega,C4 (by rw[a];exact h),a]
def Z8A(h:whD c g n ac ≠ .bad)(h':whD c g m ac ≠ .bad):whD c g n ac=whD c g m ac:=by
 by_cases a:n<=m
 .have:=Z2x h (m-n);rw[show n+(m-n)=m by omega]at this;exact this.symm
 .have:=Z2x h' (n-m);rw[show m+(n-m)=n by omega]at this;exact this
open Classical in
def rWh(c:En->Aa Bool)(g:En->Res):En->Res:=λac=>if h:∃n,whD c g n ac ≠ .bad then whD c g (Classical.choose h) ac else .bad
def Z2P(h:whD c g n ac ≠ .bad):rWh c g ac=whD c g n ac:=by
 unfold rWh;have a:∃n,whD c g n ac ≠ .bad:=⟨n,h⟩;rw[dif_pos a];exact Z8A (Classical.choose_spec a) h
def Z74(hp:PassesOwn (model X.prog X.w) X.A X.env X.xe)(hc:QT X c c')(i:QSs X body g):QS X (.While c body [] ai) (rWh c' g) :=
 .mk (Z7d hp hc i) λE σ H ⟨P,ac,I,q⟩=>by
  by_cases h:∃n,whD c' g n ac ≠ .bad
  .obtain⟨n,j⟩:=h;rw[Z2P j]at q;refine⟨λm σ' H'=>∃env',SInv X.K P H' σ' env'/\Post X.K P E (whD c' g m env'),⟨n,ac,I,q⟩,?_⟩;rintro m σ' H' ⟨env',I',q'⟩;cases m with
   |zero=>exact q'.elim
   |succ m =>
    obtain⟨F,hF⟩:=I'.ex;unfold whD at q';cases a:c' env' with
    |none=>rw[a]at q';exact q'.elim
    |some b =>
     rw[a]at q';refine⟨env',F,b,hF.ok,a,λH1 s1=>?_⟩;cases b with
     |false=>exact q' σ' H1 (I'.grow s1)
     |true =>
      simp only at q';refine⟨λσ2 H2=>∃env2,SInv X.K P H2 σ2 env2/\Post X.K P E (whD c' g m env2),λσ2 H2 ⟨env2,I2,q2⟩=>⟨m,Nat.lt_succ_self _,env2,I2,q2⟩,P,env',I'.grow s1,?_⟩;cases f:g env' with
      |next e2=>rw[f]at q';exact λσ4 H4 I4=>⟨e2,I4,q'⟩
      |cont e2=>rw[f]at q';exact λσ4 H4 I4=>⟨e2,I4,q'⟩
      |brk e2=>rw[f]at q';exact λσ4 H4 I4=>q' σ4 H4 I4
      |ret d=>rw[f]at q';exact q'
      |bad=>rw[f]at q';exact q'.elim
  .unfold rWh at q;rw[dif_neg h]at q;exact q.elim
def rZ:Ab D->Aa D
 |[.int i]=>if i.natAbs.log2<1920 then some (.str (toString i)) else none
 |_=>none
def gJ(h:Gl X "str")(l:X.mg "str" = none)(f:QE X m1 rs1 a fa)(he:starEach [a] X.env=(false,eval a X.env)::starEach [] X.env:=by rfl)(hpl:(backTo ai (starEach [] X.env)).any (·.1)=false:=by rfl) :
  QE X m rs (.Call (.Name "str" p) [a] [] ai) (λac=>(aA fa aF ac).bind rZ) :=
 oE Z0L h l boot_str (aB f aP he) (λds d vs H fp Q e r q=>by
  unfold rZ at e;split at e
  .split at e
   .rename_i i hi;cases e;obtain⟨v,rfl,j⟩:=kC r;rw[bS j];exact⟨i,rfl,hi,q _ _ [] (Same.refl H) nU (λb hb=>(by cases hb)) QaD⟩
   .cases e
  .cases e) (he:=he) (hpl:=hpl)
def uJ:Ab D->Aa D
 |[.str x]=>if x.length<=640 then(PySem.intText? x).map .int else none
 |_=>none
def Z63:CallR X (.type "int") (λxs H Q=>∃x n,xs=[.str x]/\PySem.intText? x=some n/\x.length<=640/\Q (.int n) H):=by
 intro aa s σ H xs us Q I r h;obtain⟨x,n,rfl,a,b,q⟩:=h;obtain⟨u,rfl,t,rfl⟩:=tS r;exact PySem.W.KIN.call_text a b ⟨.int n,H,I.tok _,⟨_,rfl⟩,q⟩
def vR(i:Gl X "int")(o:X.mg "int" = none)(h:QE X m1 rs1 a fa)(he:starEach [a] X.env=(false,eval a X.env)::starEach [] X.env:=by rfl)(hpl:(backTo ai (starEach [] X.env)).any (·.1)=false:=by rfl) :
  QE X m rs (.Call (.Name "int" p) [a] [] ai) (λac=>(aA fa aF ac).bind uJ) :=
 oE Z63 i o Z2k (aB h aP he) (λds d vs H fp Q e r q=>by
  unfold uJ at e;split at e
  .rename_i x;split at e
   .rename_i j;cases f:PySem.intText? x with
    |none=>rw[f]at e;cases e
    |some n =>
     rw[f]at e;cases e;obtain⟨v,rfl,l⟩:=kC r;rw[cS l];exact⟨x,n,rfl,f,j,q _ _ [] (Same.refl H) eY (λb hb=>(by cases hb)) QaD⟩
   .cases e
  .cases e) (he:=he) (hpl:=hpl)
def wP(fa fb:En->Aa D):En->Aa D:=λac=>match fa ac,fb ac with
 |some (.str x),some (.str y)=>if x.length+y.length<=5000 then some (.str (x++y)) else none
 |_,_=>none
def vT(j:QE X m1 rs1 a fa)(f:QE X m2 rs2 b fb):QE X m rs (.BinOp a .Add b ai) (wP fa fb) :=
 .mk (L2.pe_op Z33 j f) λσ H Q ⟨ac,F,d,ok,e,q⟩=>by
  unfold wP at e;split at e
  .rename_i x y l i;split at e
   .rename_i h;cases e;refine two ok l i λv u H' f1 f2 s r1 r2 _ _=>?_;rw[cS r1,cS r2];exact⟨x,y,rfl,rfl,Qay h (by decide),q _ _ _ s nU .nil⟩
   .cases e
  .cases e
def vK:Ab D->Aa (Ab Str)
 |[]=>some []
 | .str x::r=>(vK r).map (x :: ·)
 |_::_=>none
theorem Q9{K:Frag}{st:Bool}{H:Hp}:∀{ds:Ab D}{ys:Ab Str}{vs:Ab V}{fp:Ab Af},vK ds=some ys->Reps K st H ds vs fp->vs=ys.map V.str
 |[],ys,vs,fp,e,r=>by simp only[vK]at e;cases e;simp only[Reps]at r;rw[r.1];rfl
 |d::ds,ys,vs,fp,e,r=>by
  simp only[Reps]at r;obtain⟨v,us,f1,f,rfl,rfl,b,a⟩:=r;cases d with
  |str x =>
   simp only[vK]at e;cases h:vK ds with
   |none=>rw[h]at e;cases e
   |some zs =>
    rw[h]at e;cases e;rw[cS b,Q9 h a];rfl
  |_=>simp only[vK]at e;cases e
theorem C8:∀{ys:Ab Str}{us:Ab Ad},Vals (ys.map V.str) us->StrsAre us ys
 |[],_,.nil=>.nil
 |y::ys,_,.cons r w=>by obtain⟨t,rfl⟩:=r;exact .cons y t (C8 w)
def Zbz(K:Frag):V->Ab V->Hp->VK->Prop:=λx vs H Q=>∃sep p ys,x=.str sep/\vs=[.ref p]/\SqL K H p (ys.map V.str)/\(ys.map (·.length)).sum+ys.length*sep.length<=16777216/\Q (.str (Txt.join sep ys)) H
def Z7y:MtR X "str.join" (Zbz X.K):=by
 intro aa s σ H x vs v us Q I b i h;obtain⟨j,p,ys,rfl,rfl,hs,a,q⟩:=h;obtain⟨t,rfl⟩:=b;obtain⟨u,rfl,f⟩:=i.one;cases f;obtain⟨ak,w,pl,_⟩:=I.list hs;exact PyProof.Rows.join_list pl.isList (ys:=ys) (C8 w) a λt' k=>⟨.str _,H,I.tok _,⟨t',rfl⟩,q⟩
def qC(fa fb:En->Aa D):En->Aa D:=λac=>match fa ac,fb ac with
 |some (.str x),some (.lst ds)=>match vK ds with
  |some ys=>if (ys.map (·.length)).sum+ys.length*x.length<=1000000 then some (.str (Txt.join x ys)) else none
  |none=>none
 |_,_=>none
def pA(j:QE X m1 rs1 o fo)(he:QE X m2 rs2 e fe)(f:attributeBase o "join" X.env (eval o X.env)=eval o X.env:=by rfl)
  (i:((backTo cpos (starEach [e] X.env)).all (fun x=>!x.1) && (backToKw cpos (keywordEach [] X.env)).all (fun x=>x.1.isSome)
   && decide ([e].length+([]:Ab Keyword).length+(if ([]:Ab Keyword).isEmpty then 0 else 1)<30))=true:=by rfl)
  (b:(apos.endLine==cpos.line)=true:=by rfl) (hs:starEach [e] X.env=(false,eval e X.env)::starEach [] X.env:=by rfl) (a:(backTo cpos (starEach [] X.env)).any (·.1)=false:=by rfl) :
  QE X m rs (.Call (.Attribute o "join" apos) [e] [] cpos) (qC fo fe) :=
 .mk (S6 PySem.F.plainAttrs_str PySem.F.slot_str_join PySem.F.type_str_join Z7y j (aB he aP hs) f i b hs a) λσ H Q ⟨ac,F,d,ok,e,q⟩=>by
  unfold qC at e;split at e
  .rename_i x ds n y;split at e
   .rename_i ys r;split at e
    .rename_i u;cases e;refine⟨ac,F,_,ok,n,λv H1 f1 s1 r1 c1=>?_⟩;rw[cS r1];refine⟨rfl,ac,F,[.lst ds],ok.same s1,by unfold aA aF;rw[y],λvs H2 f2 s2 r2 c2=>?_⟩;obtain⟨A,rfl,l⟩:=kC r2;obtain⟨p,ws,fp',rfl,h,w,t⟩:=cB l;rw[Q9 r w]at h;exact⟨x,p,ys,rfl,rfl,h,Qay u (by decide),q _ _ _ (s1.trans s2) nU .nil⟩
    .cases e
   .cases e
  .cases e
def nQ(x y:Str):Ab Str:=if (decide (x.length<y.length)||decide (Builtin.Str.strKind x<Builtin.Str.strKind y))=true then[x] else
 if (Builtin.Str.occurrences x y 0 x.length (x.length+1)).isEmpty=true then[x] else Builtin.Str.partsBetween x (Builtin.Str.occurrences x y 0 x.length (x.length+1)) y.length
theorem tQ:∀(xs:Ab Str) (tk:Nat),Vals (xs.map V.str) (strsFrom tk xs)
 |[],_=>.nil
 |x::xs,tk=>.cons ⟨_,rfl⟩ (tQ xs (tk+1))
def Z99:V->Ab V->Hp->VK->Prop:=λx vs H Q=>∃z y,x=.str z/\vs=[.str y]/\(y.length==0)=false/\z.length<=sizeLine/\(nQ z y).length<=sizeLine/\∀l,H l=none->Q (.ref l) (upd H l (.lst ((nQ z y).map V.str)))
def Z5D:MtR X "str.split" Z99:=by
 intro aa s σ H x vs v us Q I j n h;obtain⟨z,y,rfl,rfl,i,o,a,q⟩:=h;obtain⟨t,rfl⟩:=j;obtain⟨u,rfl,l⟩:=n.one;obtain⟨t2,rfl⟩:=l;have b:=q s.heap.objs.size I.fresh;unfold nQ at a b;cases h1:(decide (z.length<y.length)||decide (Builtin.Str.strKind z<Builtin.Str.strKind y)) with
 |true =>
  rw[h1,if_pos rfl]at a b;refine call_meets PySem.F.slot_str_split (typeIs_str _ _ _) PySem.F.entry_str_split (PySem.F.args_str_split_2 _ _) (meets_str_split_cannot_occur z y t t2 h1) ?_;exact⟨.ref _,_,I.lnew (t':=s.toks) (ys:=[V.str z]) (ak:=[Value.str z t]) (.cons (show RelV (V.str z) (Value.str z t) from⟨t,rfl⟩) .nil) a,rfl,b⟩
 |false =>
  rw[h1,if_neg (by decide)]at a b;cases f:(Builtin.Str.occurrences z y 0 z.length (z.length+1)).isEmpty with
  |true =>
   rw[f,if_pos rfl]at a b;refine call_meets PySem.F.slot_str_split (typeIs_str _ _ _) PySem.F.entry_str_split (PySem.F.args_str_split_2 _ _) (meets_str_split_not_found z y t t2 h1 i f) ?_;exact⟨.ref _,_,I.lnew (t':=s.toks) (ys:=[V.str z]) (ak:=[Value.str z t]) (.cons (show RelV (V.str z) (Value.str z t) from⟨t,rfl⟩) .nil) a,rfl,b⟩
  |false =>
   rw[f,if_neg (by decide)]at a b;refine call_meets PySem.F.slot_str_split (typeIs_str _ _ _) PySem.F.entry_str_split (PySem.F.args_str_split_2 _ _) (meets_str_split_sep z y t t2 h1 i f o a) ?_;exact⟨.ref _,_,I.lnew (ak:=strsFrom s.toks _) (tQ _ _) (by rw[Qad];exact a),rfl,b⟩
def pM(fa fb:En->Aa D):En->Aa D:=λac=>match fa ac,fb ac with
 |some (.str x),some (.str y)=>if (y.length==0)=false/\x.length<=5000/\(nQ x y).length<=1000 then some (.lst ((nQ x y).map .str)) else none
 |_,_=>none
theorem R8{K:Frag}{H:Hp}{st:Bool}:∀(ys:Ab Str),Reps K st H (ys.map D.str) (ys.map V.str) []
 |[]=>by simp only[Qa5,Reps];exact⟨trivial,trivial⟩
 |n::ns=>by simp only[Qan,Reps];exact⟨.str n,ns.map V.str,[],[],rfl,rfl,nU,R8 ns⟩
def qU(n:QE X m1 rs1 o fo)(he:QE X m2 rs2 e fe)(h:attributeBase o "split" X.env (eval o X.env)=eval o X.env:=by rfl)
  (i:((backTo cpos (starEach [e] X.env)).all (fun x=>!x.1) && (backToKw cpos (keywordEach [] X.env)).all (fun x=>x.1.isSome)
   && decide ([e].length+([]:Ab Keyword).length+(if ([]:Ab Keyword).isEmpty then 0 else 1)<30))=true:=by rfl)
  (f:(apos.endLine==cpos.line)=true:=by rfl) (hs:starEach [e] X.env=(false,eval e X.env)::starEach [] X.env:=by rfl) (a:(backTo cpos (starEach [] X.env)).any (·.1)=false:=by rfl) :
  QE X m rs (.Call (.Attribute o "split" apos) [e] [] cpos) (pM fo fe) :=
 .mk (S6 PySem.F.plainAttrs_str PySem.F.slot_str_split PySem.F.type_str_split Z5D n (aB he aP hs) h i f hs a) λσ H Q ⟨ac,F,d,ok,e,q⟩=>by
  unfold pM at e;split at e
  .rename_i x y r t;split at e
   .rename_i j;cases e;refine⟨ac,F,_,ok,r,λv H1 f1 s1 r1 c1=>?_⟩;rw[cS r1];refine⟨rfl,ac,F,[.str y],ok.same s1,by unfold aA aF;rw[t],λvs H2 f2 s2 r2 c2=>?_⟩;obtain⟨u,rfl,p⟩:=kC r2;rw[cS p];refine⟨x,y,rfl,rfl,j.1,Qay j.2.1 (by decide),nE j.2.2,λl hn=>?_⟩;refine q _ _ [l] ((s1.trans s2).trans (bV hn)) (mP hn (R8 _)) ⟨λb hb=>.inl ?_,λ_=>⟨by simp,λb hb=>?_⟩⟩
    .have:b=l:=by simpa using hb
     rw[this];exact(s1.trans s2).free hn
    .have:b=l:=by simpa using hb
     rw[this];exact(s1.trans s2).free hn
   .cases e
  .cases e
def kY:Ab D->Aa (Ab Bool)
 |[]=>some []
 | .bl x::r=>(kY r).map (x :: ·)
 |_::_=>none
theorem N7{K:Frag}{st:Bool}{H:Hp}:∀{ds:Ab D}{ys:Ab Bool}{vs:Ab V}{fp:Ab Af},kY ds=some ys->Reps K st H ds vs fp->vs=ys.map V.bl
 |[],ys,vs,fp,e,r=>by simp only[kY]at e;cases e;simp only[Reps]at r;rw[r.1];rfl
 |d::ds,ys,vs,fp,e,r=>by
  simp only[Reps]at r;obtain⟨v,us,f1,f,rfl,rfl,b,a⟩:=r;cases d with
  |bl x =>
   simp only[kY]at e;cases h:kY ds with
   |none=>rw[h]at e;cases e
   |some zs =>
    rw[h]at e;cases e;rw[fW b,N7 h a];rfl
  |_=>simp only[kY]at e;cases e
theorem Z2l:∀{ys:Ab Bool}{us:Ab Ad},Vals (ys.map V.bl) us->us=ys.map Value.bool
 |[],_,.nil=>rfl
 |y::ys,_,.cons r w=>by cases r;rw[Z2l w];rfl
def Z5e(ys:Ab Bool):((List.range ys.length).all λi=>ys.getD i true)=ys.all id:=by
 rw[QaU,Qaz,Qaz];constructor
 .intro h y b;obtain⟨i,hi⟩:=List.getElem?_of_mem b;have:=h i (by simpa using(Qah.mp hi).1);simpa[List.getD,hi]using this
 .intro h i hi;have a:i<ys.length:=by simpa using hi
  have:=h ys[i] (Qbr a);simpa[List.getD,a]using this
def Z65(hc:X.calm=true):CallR X (.builtin "all") (λvs H Q=>∃(a:Af) (ys:Ab Bool),vs=[.ref a]/\SqL X.K H a (ys.map V.bl)/\Q (.bl (ys.all id)) H):=λaa s σ H xs us Q I w h=>by
 obtain⟨a,ys,rfl,hs,q⟩:=h;obtain⟨u,rfl,r⟩:=tS w;cases (show u=Value.ref a from r)
 obtain⟨ak,w1,pl,_⟩:=I.list hs;have B:=Z2l w1;subst B;have l:=pl.isList;obtain⟨o,x,_⟩:=id l;have t:a≠s.heap.objs.size:=QaA (Qal x);refine call_all_walk (wpAny_pyIter_list l ?_);refine⟨s.heap.objs.size,_,_,_,_,_,λi=>ys.getD i true,rfl,Walks.list (A:=X.A.in1) (I.ok.hd hc) s.heap.objs.size a t (ys.map Value.bool).toArray,⟨⟨_,Qas _ rfl,rfl,rfl⟩,l.at λo e=>Qac _ e⟩,?_,λh' tk hk=>?_⟩
 .intro i v s' F J E hq;have f:(ys.map Value.bool)[i]?=some v:=by simpa using E
  rw[Qax]at f;cases j:ys[i]? with
  |none=>rw[j]at f;cases f
  |some y =>
   rw[j]at f;cases f;have n:F y s':=by simpa[List.getD,j]using hq
   exact wpAny_truthy_bool n
 .have p:∀b o,s.heap.get? b=some o->h'.get? b=some o:=λb o e=>hk b o (λG=>by
   have:b=s.heap.objs.size:=by simpa using G
   exact absurd (Qal e) (by rw[this];exact Qa9 _)) (Qac _ e)
  refine⟨.bl (ys.all id),H,I.kept p,?_,q⟩;have C:=Z5e ys;show Value.bool _=Value.bool _;rw[<- C];simp
def Z3D:Ab D->Aa D
 |[.lst ds]=>(kY ds).map λys=>.bl (ys.all id)
 |_=>none
def Z78(i:X.calm=true)(n:Gl X "all")(u:X.mg "all" = none)(j:QE X m1 rs1 a fa)(he:starEach [a] X.env=(false,eval a X.env)::starEach [] X.env:=by rfl)(hpl:(backTo ai (starEach [] X.env)).any (·.1)=false:=by rfl) :
  QE X m rs (.Call (.Name "all" p) [a] [] ai) (λac=>(aA fa aF ac).bind Z3D) :=
 vU (Z65 i) n u PyProof.Rows.boot_all (aB j aP he) (λds d vs H fp Q e r q=>by
  unfold Z3D at e;split at e
  .rename_i h;cases hq:kY h with
   |none=>rw[hq]at e;cases e
   |some ns =>
    rw[hq]at e;cases e;obtain⟨v,rfl,o⟩:=kC r;obtain⟨p,ws,fp',rfl,f,t,l⟩:=cB o;rw[N7 hq t]at f;exact⟨p,ns,rfl,f,q _ _ [] (Same.refl H) pW (λb hb=>(by cases hb)) QaD⟩
  .cases e) (he:=he) (hpl:=hpl)
def Its(x:Str):It:=⟨λi _=>i<x.cps.size,λi H v H'=>H'=H/\∃c,x.cps[i]?=some c/\v=.str ⟨#[c]⟩,λi _=>x.cps.size<=i⟩
def Z6v{P:Aj}{w:Ak}{K:Frag}{tg:Ag}(x:Str)(t:Tok)(it:Af):O1 P w K tg (Its x) [it] it (λi h=>h.IsStrIter it "str_ascii_iterator" x t i) where
 mem:=by simp
 obj:=λi h st b hb=>by
  have e:b=it:=by simpa using hb
  subst e;obtain⟨o,e,c,d⟩:=st;exact⟨o,e,λv z=>by rw[d]at z;cases z⟩
 keep:=λi h h' st k=>by
  obtain⟨o,e,c,d⟩:=st;exact⟨o,k it (by simp) o e,c,d⟩
 item:=by
  intro X q hw n hc i aa s σ H E I f st l;subst q hw n;obtain⟨j,f1,y,f3,p,r⟩:=f it (by simp);have u:i<x.cps.size:=l;have a:x.cps[i]?=some x.cps[i]:=Array.getElem?_eq_getElem u;refine wpAny_pyNext_ascii_item st a λh' st' sb=>?_;have A:Inv X aa σ H { s with heap:=h',toks:=s.toks+1 }:=I.turned (t':=s.toks+1) (λb o hb e=>(sb.2 b hb).trans e) j f1 f3 p r;obtain⟨o,e,c,d⟩:=id st';exact⟨_,rfl,Z1O (s:={ s with heap:=h',toks:=s.toks+1 }) e c d (by decide) ⟨.str ⟨#[x.cps[i]]⟩,H,A,⟨_,rfl⟩,⟨rfl,_,a,rfl⟩,st',λb hb=>(f b hb).1⟩⟩
 done:=by
  intro X q hw n hc i aa s σ H E I f st l;subst q hw n;obtain⟨j,f1,y,f3,p,r⟩:=f it (by simp);have a:x.cps[i]?=none:=by simp[show x.cps.size<=i from l]
  exact wpAny_pyNext_ascii_end (I.ok.hd hc) st a λh' eb=>⟨rfl,I.turned (t':=s.toks) (λb o hb e=>eb b o hb e) j f1 f3 p r⟩
 self:=λ_ _ _ _ _ st h=>wpAny_pyIter_striter_ascii st h
def Ze8(tl:TE):TI:=λσ H R=>tl σ H λv H1=>∃x,v=.str x/\x.cps.all (· < 128)=true/\R (Its x) H1
def ZbO{l:Ag}{tl:TE}(f:PE X l tl):PI X tg l (Ze8 tl):=by
 intro aa s σ H R I h;refine thn (f aa s σ H _ I h) λv s1 ⟨x,H1,I1,r1,q1⟩=>?_;obtain⟨z,rfl,a,q⟩:=q1;obtain⟨t,rfl⟩:=r1;refine wpAny_pyIter_ascii a ?_;refine⟨s1.heap.objs.size,[s1.heap.objs.size],_,_,H1,rfl,I1.kept (t':=s1.toks) λb o e=>Qac _ e,Z6v z t _,⟨_,Qas _ rfl,rfl,rfl⟩,λb hb=>?_,q⟩;have e:b=s1.heap.objs.size:=by simpa using hb
 subst e;exact I1.fpOk (Qap _) (I1.hok.fresh (Qap _))
def qM(x:Str):Ab D:=x.cps.toList.map λc=>.str ⟨#[c]⟩
def Z5T{K:Frag}{H0:Hp}(x:Str):zM K (Its x) H0 (qM x) []:=λH k i=>by
 refine⟨λd hd=>?_,λf=>(show x.cps.size<=i by simpa[qM]using f)⟩;unfold qM at hd;rw[Qax]at hd;cases a:x.cps.toList[i]? with
 |none=>rw[a]at hd;cases hd
 |some c =>
  rw[a]at hd;cases hd;have hc:x.cps[i]?=some c:=by simpa using a
  refine⟨(show i<x.cps.size by have:=(Qah.mp a).1;simpa using this),λv H' y=>?_⟩;obtain⟨rfl,c',h1,rfl⟩:=y;rw[hc]at h1;cases h1;exact⟨Same.refl _,[],nU,λb hb=>hb⟩
def oQ(fa:En->Aa D):En->Aa (Ab D):=λac=>match fa ac with
 |some (.str x)=>if x.cps.all (· < 128)=true then some (qM x) else none
 |_=>none
def G0(f:QE X m1 rs a fa):QI X tg [] a (oQ fa) :=
 .mk (ZbO f) λσ H R ⟨ac,F,ds,ok,e,q⟩=>by
  unfold oQ at e;split at e
  .rename_i x h1;split at e
   .rename_i h;cases e;refine⟨ac,F,_,ok,h1,λv H' fp s r c=>?_⟩;rw[cS r];exact⟨x,rfl,h,q _ H' [] s (Z5T x) (λb hb=>(by cases hb)) .nil⟩
   .cases e
  .cases e
def esK:Ab (Str×Int)->Ab DictEntry->Prop
 |[],[]=>True
 |p::kvs,e::es=>((∃t,e.key=.str p.1 t)/\∃t,e.val=.int p.2 t)/\esK kvs es
 |_,_=>False
structure Zb1(K:Frag)(P:Params)(mg:Str->Option Value)(name:Str)(kvs:List (Str×Int)):Prop where
 ex:∃a es n,mg name=some (.ref a)/\K.lookup a=some ⟨.type "dict",none,.dict es n,#[]⟩/\PySem.W.KeysLit P es.toList/\(a==sysModules)=false/\esK kvs es.toList
theorem Z20:∀{kvs:Ab (Str×Int)}{es:Ab DictEntry},esK kvs es->match kvs.lookup x with
  |some i=>∃t,((es.find? λe=>Value.isStrOf x e.key).map (·.val))=some (.int i t)
  |none=>((es.find? λe=>Value.isStrOf x e.key).map (·.val))=none
 |[],[],_=>rfl
 |[],_::_,h=>h.elim
 |_::_,[],h=>h.elim
 |(k,i)::kvs,e::es,⟨⟨⟨t,hk⟩,t2,hv⟩,r⟩=>by
  have b:=Z20 (x:=x) r;have hs:Value.isStrOf x e.key=(x==k):=by
   rw[hk];show(k==x)=(x==k);cases h1:k==x with
   |true=>rw[eq_of_beq h1];exact(beq_self_eq_true x).symm
   |false =>
    cases h2:x==k with
    |false=>rfl
    |true=>rw[eq_of_beq h2,beq_self_eq_true]at h1;cases h1
  cases a:x==k with
  |true =>
   simp only[QaB,a];rw[a]at hs;exact⟨t2,by rw[QaR,hs];simp only[QaK,hv]⟩
  |false =>
   simp only[QaB,a];rw[a]at hs;rw[QaR,hs];exact b
section
variable {X:Cx}{m m1:Bool}{rs rs1:Ab Nat}{e:Ag}{fe:En->Aa D}{p apos cpos:Pos}{nm:Str}{kvs:Ab (Str×Int)}
def W6(kvs:Ab (Str×Int)):Ab D->Aa D
 |[.str x]=>some (match kvs.lookup x with|some i=>.int i|none=>.non)
 |_=>none
def Z9o(T:Zb1 X.K X.w.params X.mg nm kvs)(O:Gl X nm)(he:QE X m1 rs1 e fe)(N:nDb nm:=by decide)(j:attributeBase (.Name nm p) "get" X.env (eval (.Name nm p) X.env)=eval (.Name nm p) X.env:=by rfl)
  (B:((backTo cpos (starEach [e] X.env)).all (fun x=>!x.1) && (backToKw cpos (keywordEach [] X.env)).all (fun x=>x.1.isSome)
   && decide ([e].length+([]:Ab Keyword).length+(if ([]:Ab Keyword).isEmpty then 0 else 1)<30))=true:=by rfl)
  (h:(apos.endLine==cpos.line)=true:=by rfl) (f:backTo cpos (starEach [e] X.env)=[(false,eval e X.env)]:=by rfl) :
  QE X m rs (.Call (.Attribute (.Name nm p) "get" apos) [e] [] cpos) (λac=>(aA fe aF ac).bind (W6 kvs)):=by
 intro aa s σ H Q I ⟨ac,F,d,ok,ee,q⟩;obtain⟨a,es,n,P,J,G,lo,C⟩:=T.ex;have E:∀{s':Ac}{H':Hp},Inv X aa σ H' s'->X.K.In s'.heap:=λR=>R.kIn;refine wpAny_Call_method j B h PySem.F.plainAttrs_dict PySem.F.slot_dict_get PySem.F.type_dict_get (thn (sO (v:=.ref a) O P rfl N aa s σ H (λv H1=>v=.ref a/\H1=H) I ⟨rfl,rfl⟩) λu s1 ⟨x,H1,I1,rx,⟨ex,eH⟩⟩=>?_);subst ex eH;obtain rfl:u=Value.ref a:=rx;have l:=PySem.W.mapOf_K (prog:=X.prog) (w:=X.w) (E I1) J G;refine⟨l.typeIs,l.noDict,?_⟩;rw[f];cases h1:fe ac with
 |none=>simp only[aA,h1]at ee;cases ee
 |some dx =>
  simp only[aA,aF,h1,Qa8]at ee;cases dx with
  |str x =>
   simp only[W6]at ee;refine Calls.callWith_builtin rfl (Calls.evalArgs_plain (Calls.spliced_cons (thn (he aa s1 σ H1 (λv H2=>v=.str x/\Same H1 H2) I1 ⟨ac,F,_,ok,h1,λv H2 fp s2 r c=>⟨cS r,s2⟩⟩) λiv s2 ⟨y,H2,I2,ry,ey,sm⟩=>Calls.spliced_nil ?_)));subst ey;obtain⟨t,rfl⟩:=ry;have o:=PySem.W.mapOf_K (prog:=X.prog) (w:=X.w) (E I2) J G;refine call_meetsIn PySem.F.slot_dict_get o.typeIs PySem.F.entry_dict_get (PySem.F.args_dict_get_2 _ _) (meets_dict_get (strKind X.prog X.w) a (strKind_is X.prog X.w x t) lo) ⟨_,o,?_⟩;have b:=Z20 (x:=x) C;have L:findBy Value.isStrOf es x=((es.toList.find? λe=>Value.isStrOf x e.key).map (·.val)):=by
    unfold findBy;rw[<- Array.find?_toList]
   rw[L];cases M:kvs.lookup x with
   |none =>
    rw[M]at b ee;have A:d=.non:=(QaF ee).symm;subst A;rw[b];exact⟨.non,H2,I2.tok _,rfl,q _ H2 [] sm pB .nil⟩
   |some i =>
    rw[M]at b ee;have A:d=.int i:=(QaF ee).symm;subst A;obtain⟨t2,b⟩:=b;rw[b];exact⟨.int i,H2,I2.tok _,⟨t2,rfl⟩,q _ H2 [] sm eY .nil⟩
  |_=>simp only[W6]at ee;cases ee
end
section
variable {X:Cx}{e:Ag}{f:En->Aa D}{p ai pos' bpos:Pos}{x y:Str}{i j:Nat}
def gE(j i:Nat)(f:En->Aa D):En->Res:=λac=>match ac[i]?,f ac with
 |some (some (true,.lst xs)),some (.lst ys)=>if flats xs=true/\xs.length+ys.length<=1000 then .next (ac.set j (some (true,.lst (xs++ys)))) else .bad
 |_,_=>.bad
def Z8g{K:Frag}{P H:Hp}{σ:L2.St}{ac:En}{F:Nat->Ab Af}{xs ys:Ab D}{Q:VK}(hF:EnvS K P H σ ac F)(w:ac[i]?=some (some (true,.lst xs)))(I:f ac=some (.lst ys))(G:flats xs=true)(E:xs.length+ys.length<=1000)
  (q:∀v H' fp,Same H H'->Rep K true H' (.lst (xs++ys)) v fp->fp.Nodup->(∀b∈fp,H b=none)->Q v H'):∃v,σ[i]?=some (some v)/\tD K true [] f σ H λu H2=>Zd0 v u H2 Q:=by
 obtain⟨v,j,_⟩:=hF.ok i true _ w;obtain⟨M,L,A,J⟩:=hF.own i _ w;obtain⟨a,vs,N,rfl,O,B,y⟩:=mG (A v j);obtain⟨rfl,t⟩:=Reps.flat _ _ _ G y;refine⟨.ref a,j,ac,F,.lst ys,hF.ok,I,λu H2 f2 s2 r2 c2=>?_⟩;obtain⟨b,us,x,rfl,rfl,C,h⟩:=mG r2;have l:=c2.2 rfl;refine⟨a,b,vs,us,rfl,rfl,s2 _ _ B,C,nE (by rw[y.length,h.length];exact E),λp hp=>?_⟩;have n:Reps K true H2 (xs++ys) (vs++us) ([]++x):=((t true).same s2).append h;rw[List.nil_append]at n;refine q _ _ (p::x) (s2.trans (bV hp)) (mP hp n) ?_ λc hc=>?_
 .refine Qav.mpr ⟨λz=>?_,(Qav.mp l.1).2⟩;obtain⟨o,r⟩:=Reps.dom _ _ _ h p z;rw[hp]at r;cases r
 .rcases Qab.mp hc with z|z
  .rw[z];exact s2.free hp
  .exact l.2 c (Qaa _ z)
def oC(j i:Nat)(a:X.N.Nodup)(w:X.N[j]?=some y)(t:Loc X.env.scope y)(he:QE X true [] e f)(n:X.N[i]?=some x:=by rfl)(o:Vis X.env.scope x:=by first|exact Or.inl rfl|exact Or.inr (Or.inl rfl)|exact Or.inr (Or.inr rfl))(hd:nDb x:=by decide)(b:(x==("__classdict__" : Str))=false:=by decide)
  (hs:swapsWith (.BinOp (.Name x p) .Add e bpos) (some (.Name y pos')) ai.line X.env=pure false:=by rfl) (A:X.fn y=true\/X.env.scope.names.lookup y=some .local:=by first|exact .inl rfl|exact .inr rfl|assumption) :
  QS X (.Assign [.Name y pos'] (.BinOp (.Name x p) .Add e bpos) ai) (gE j i f):=.mk (uP a w t (L2.pe_op Z31 (mL n o hd b) he) hs A) λE σ H ⟨P,ac,I,q⟩=>by
 obtain⟨F,hF⟩:=I.ex;unfold gE at q;split at q
 .rename_i xs ys u l;split at q
  .rename_i h;exact Z8g hF.nrm u l h.1 h.2 λv H' fp s r nd fr=>q _ _ (sD j I.same I.len hF.nrm s r nd fr)
  .exact q.elim
 .exact q.elim
end
def Itd(lo:Int)(n:Nat):It:=⟨λi _=>i<n,λi H x H'=>H'=H/\x=.int (lo-i),λi _=>n<=i⟩
def Z4U{K:Frag}(it:Af)(lo:Int)(n:Nat):O1 P w K tg (Itd lo n) [it] it (λi h=>IsRangeIter h it (lo+(i:Nat)*(-1)) ((n:Int)-(i:Nat)) (-1)) where
 mem:=by simp
 obj:=λi h st b hb=>by
  have e:b=it:=by simpa using hb
  subst e;exact⟨_,st,λv z=>by
   have y:Data.fields _=Data.cell v:=z;cases y⟩
 keep:=λi h h' st k=>k it (by simp) _ st
 item:=by
  intro X p hw r hc i aa s σ H E I a st l;subst p hw r;obtain⟨j,f1,u,f3,f,q⟩:=a it (by simp);have W:=Walks.range (prog:=X.prog) (w:=X.w) (I.ok.hd hc) it lo (-1) n;refine W.item i s _ _ l st λv h' tk hv st' kk=>?_;obtain⟨t,rfl⟩:=hv;have x:Inv X aa σ H { s with heap:=h',toks:=tk }:=I.turned (λb o hb e=>kk b o (by simpa using hb) e) j f1 f3 f q;refine⟨_,rfl,Z1O (s:={ s with heap:=h',toks:=tk }) (n := "range_iterator") st' rfl rfl (by decide) ⟨.int (lo-i),H,x,⟨t,?_⟩,⟨rfl,rfl⟩,st',λb hb=>(a b hb).1⟩⟩;rw[show lo+(i:Int) * -1=lo-i by omega]
 done:=by
  intro X p hw r hc i aa s σ H E I a st l;subst p hw r;obtain⟨j,f1,u,f3,f,q⟩:=a it (by simp);exact wpAny_pyNext_range_end (I.ok.hd hc) st (by have:n<=i:=l;omega) λh' eb=>⟨rfl,I.turned (t':=s.toks) (λb o hb e=>eb b o hb e) j f1 f3 f q⟩
 self:=λ_ _ _ _ _ st h=>wpAny_pyIter_rangeiter st h
def Z3l{K:Frag}(lo:Int)(n:Nat):zM K (Itd lo n) H0 ((List.range n).map λ(k:Nat)=>.int (lo-(k:Int))) []:=λH k i=>by
 refine⟨λd hd=>?_,λh=>(show n<=i by simpa using h)⟩;rw[Qax]at hd;cases a:(List.range n)[i]? with
 |none=>rw[a]at hd;cases hd
 |some j =>
  rw[a]at hd;cases hd;obtain⟨f,e⟩:=Qah.mp a;rw[List.getElem_range]at e;subst e;refine⟨(show i<n by simpa using f),λx H' y=>?_⟩;obtain⟨rfl,rfl⟩:=y;exact⟨Same.refl _,[],eY,λb hb=>hb⟩
theorem qW:∀{a b:Ab Int},a.Perm b->a.Pairwise (· <= ·)->b.Pairwise (· <= ·)->a=b
 |[],b,p,_,_=>(List.nil_perm.mp p).symm
 |x::a,[],p,_,_=>by have:=p.length_eq;simp at this
 |x::a,y::b,p,h1,h2=>by
  have h:x∈y::b:=p.mem_iff.mp Qag;have f:y∈x::a:=p.mem_iff.mpr Qag;have i:y<=x:=by
   rcases Qab.mp h with z|z
   .omega
   .exact(Qbb.mp h2).1 x z
  have j:x<=y:=by
   rcases Qab.mp f with z|z
   .omega
   .exact(Qbb.mp h1).1 y z
  have e:x=y:=by omega
  subst e;rw[qW (List.Perm.cons_inv p) (Qbb.mp h1).2 (Qbb.mp h2).2]
def Z3h(x:Int):Ab Int->Ab Int
 |[]=>[x]
 |y::r=>if x<=y then x::y::r else y::Z3h x r
def X4:Ab Int->Ab Int
 |[]=>[]
 |x::r=>Z3h x (X4 r)
theorem yE(x:Int):∀r:Ab Int,(Z3h x r).Perm (x::r)
 |[]=>.refl _
 |y::r=>by
  unfold Z3h;split
  .exact .refl _
  .exact((yE x r).cons y).trans (.swap x y r)
theorem zB(x:Int):∀r:Ab Int,r.Pairwise (· <= ·)->(Z3h x r).Pairwise (· <= ·)
 |[],_=>by simp[Z3h]
 |y::r,h=>by
  obtain⟨h1,h2⟩:=Qbb.mp h;unfold Z3h;split
  .rename_i b;refine Qbb.mpr ⟨λz hz=>?_,h⟩;rcases Qab.mp hz with e|e
   .omega
   .have:=h1 z e;omega
  .rename_i b;refine Qbb.mpr ⟨λz hz=>?_,zB x r h2⟩;have a:=(yE x r).mem_iff.mp hz;rcases Qab.mp a with e|e
   .omega
   .exact h1 z e
theorem R0:∀r:Ab Int,(X4 r).Perm r
 |[]=>.refl _
 |x::r=>(yE x (X4 r)).trans ((R0 r).cons x)
theorem yS:∀r:Ab Int,(X4 r).Pairwise (· <= ·)
 |[]=>.nil
 |x::r=>zB x _ (yS r)
def sB(h:IntsAre ak ns):Vals (ns.map V.int) ak:=by
 induction h with
 |nil=>exact .nil
 |cons n t h ih=>exact .cons ⟨t,rfl⟩ ih
def Z2j:bootBuiltins "sorted" = some (.builtin "sorted"):=by decide +kernel
def un2{α:Type}(f:En->Aa α):En->Aa α
 |some (_,.tup [a,b])::r=>f (some (false,a)::some (false,b)::r)
 |_=>none
def Z4R(h:un2 f (some (b,d)::ac)≠none):∃d1 d2,d=.tup [d1,d2]:=by
 unfold un2 at h;split at h
 .rename_i e;cases e;exact⟨_,_,rfl⟩
 .exact absurd rfl h
def Zbt{K:Frag}{st:Bool}(h:Reps K st H [d1,d2] vs fp):∃v1 v2,vs=[v1,v2]/\(∃f,Rep K st H d1 v1 f)/\∃f,Rep K st H d2 v2 f:=by
 simp only[Reps]at h;obtain⟨v,us,f1,n,rfl,rfl,b,o,l,j,i,rfl,rfl,a,rfl,rfl⟩:=h;exact⟨_,_,rfl,⟨_,b⟩,⟨_,a⟩⟩
def Z5X{K:Frag}(ok:EnvOk K H σ ac F)(f:Rep K false H d1 v1 f1)(b:Rep K false H d2 v2 f2) :
  ∃F',EnvOk K H (((kB 2 fr σ).set 0 (some v1)).set 1 (some v2)) (some (false,d1)::some (false,d2)::qH fr ac) F':=by
 refine⟨λi=>match i with|0=>f1|1=>f2|i+2=>F (fr.getD i 0),λi o d' e=>?_⟩
 match i,e with
 |0,e =>
  simp at e;obtain⟨_,rfl⟩:=e;exact⟨v1,by simp[kB],f⟩
 |1,e =>
  simp at e;obtain⟨_,rfl⟩:=e;exact⟨v2,by simp[kB],b⟩
 |i+2,e =>
  simp only[List.getElem?_cons_succ,qH,Qax]at e;cases a:fr[i]? with
  |none=>rw[a]at e;cases e
  |some j =>
   rw[a]at e;simp only[QaK,QaO]at e;cases hq:ac[j]? with
   |none=>rw[hq]at e;cases e
   |some s =>
    rw[hq]at e;simp only[Option.join_some]at e;subst e;obtain⟨w,h1,h2⟩:=ok j o d' hq;refine⟨w,?_,?_⟩
    .simp[kB,a,h1]
    .have:fr.getD i 0=j:=by simp[List.getD,a]
     simp only[this];exact h2
def Z3v{K:Frag}(h:tD K true [] (cX fr src (un2 fc) (un2 fe)) σ H Q) :
  C7 (tDI K rs src) 2 fr (Zdn K 2 (Z0t [0,1])) (tDT K fc) (tD K true [] fe) σ H Q:=by
 obtain⟨ac,F,d,ok,e,q⟩:=h;unfold cX at e;cases h1:src ac with
 |none=>rw[h1]at e;cases e
 |some ds =>
  rw[h1]at e;simp only at e;split at e
  .rename_i X;cases h2:dQ (un2 fc) (un2 fe) (qH fr ac) ds with
   |none=>rw[h2]at e;cases e
   |some ys =>
    rw[h2]at e;cases e;refine⟨ac,F,ds,ok,h1,λJ H1 fp s1 gv dm cd=>?_⟩;intro j p;refine⟨λi k vs H2=>i<=ds.length/\k=ds.length-i/\H2 j=some (.lst vs)/\Same H1 H2/\∃zs f,dQ (un2 fc) (un2 fe) (qH fr ac) (ds.take i)=some zs/\Reps K true H2 zs vs f/\f.Nodup/\(∀b∈f,H1 b=none)/\j∉f,
     ⟨ds.length,QaY _,rfl,bC,bV p,[],[],by simp[dQ],by simp only[Reps];exact⟨trivial,trivial⟩,QaD,λb n=>(by cases n),by simp⟩,?_⟩
    rintro i k vs H2 ⟨hi,hk,ha,sm,zs,f,hz,hr,nd,hfr,hna⟩;refine⟨ha,?_⟩;have R:=gv H2 (Kp.same sm fp) i;by_cases u:i<ds.length
    .right;have hd:ds[i]?=some ds[i]:=Qam u;obtain⟨go,hy⟩:=R.1 _ hd;refine⟨go,λx H3 y3=>?_⟩;obtain⟨l,f3,C,_⟩:=hy x H3 y3;have L:EnvOk K H3 σ ac F:=ok.same ((s1.trans sm).trans l);have w:=pO hd h2 hz;have N:un2 fc (some (false,ds[i])::qH fr ac)≠none:=by
      rcases w with⟨c1,_⟩|⟨c1,_⟩<;>(rw[c1];intro z;cases z)
     obtain⟨d1,d2,U⟩:=Z4R N;rw[U]at C w;simp only[Rep]at C;obtain⟨pt,wt,rfl,M,I⟩:=C;obtain⟨T,E,rfl,⟨f1,W⟩,⟨f2,O⟩⟩:=Zbt I;refine⟨pt,[T,E],rfl,M,rfl,T,[E],rfl,E,[],rfl,rfl,⟨by simp[kB],by simp[kB]⟩,?_⟩;obtain⟨F',r⟩:=Z5X (fr:=fr) L W O;rcases w with⟨c1,S,c2,c3⟩|⟨c1,c2⟩
     .refine⟨_,F',true,r,c1,λH4 s4=>yC ⟨_,F',S,r.same s4,c2,λv H5 fp5 s5 r5 c5=>?_⟩⟩;have t:Same H2 H5:=(l.trans s4).trans s5;have s35:Same H4 H5:=s5;have y:H5 j=some (.lst vs):=t _ _ ha;have A:j∉fp5:=λz=>by
       have:=(c5.2 rfl).2 j z;rw[(l.trans s4) _ _ ha]at this;cases this
      have lv:vs.length<1000:=by
       have:=tK hz;have h4:=hr.length;rw[QaV]at this;omega
      refine⟨vs,y,gD (Qbh lv),ds.length-(i+1),by omega,u,rfl,bC,?_,zs++[S],f++fp5,c3,?_,?_,?_,?_⟩
      .intro b o n;have P:b≠j:=bL n p;rw[aY P];exact t _ _ (sm _ _ n)
      .have Z:=Reps.keep _ _ _ (Kp.upd (o':=.lst (vs++[v])) y (by intro xs z;cases z) (by intro a b z;cases z) hna) (hr.same t);have e2:=Rep.keep _ _ _ (Kp.upd (o':=.lst (vs++[v])) y (by intro xs z;cases z) (by intro a b z;cases z) A) r5;exact Z.snoc e2
      .refine Qau.mpr ⟨nd,(c5.2 rfl).1,λa ha' b n z=>?_⟩;obtain⟨o,Y⟩:=Reps.dom _ _ _ hr a ha';have:=(c5.2 rfl).2 b n;rw[<- z,(l.trans s4) _ _ Y]at this;cases this
      .intro b n;rcases Qaf.mp n with z|z
       .exact hfr b z
       .exact((sm.trans l).trans s4).free ((c5.2 rfl).2 b z)
      .intro z;rcases Qaf.mp z with z|z
       .exact hna z
       .exact A z
     .refine⟨_,F',false,r,c1,λH4 s4=>zX ⟨ds.length-(i+1),vs,by omega,u,rfl,(l.trans s4) _ _ ha,(sm.trans l).trans s4,zs,f,c2,hr.same (l.trans s4),nd,hfr,hna⟩⟩
    .left;have G:i=ds.length:=by omega
     refine⟨R.2 (by omega),?_⟩;have B:dQ (un2 fc) (un2 fe) (qH fr ac) ds=some zs:=by rw[G,Qa0]at hz;exact hz
     rw[h2]at B;cases B;refine q _ H2 (j::f) (s1.trans sm) ?_ ⟨λb n=>?_,λ_=>⟨Qav.mpr ⟨hna,nd⟩,λb n=>?_⟩⟩
     .simp only[Rep];exact⟨j,vs,f,rfl,hr,.inl ⟨rfl,ha⟩⟩
     .rcases Qab.mp n with z|z
      .exact .inl (by rw[z];exact s1.free p)
      .exact .inl (s1.free (hfr b z))
     .rcases Qab.mp n with z|z
      .rw[z];exact s1.free p
      .exact s1.free (hfr b z)
  .cases e
def Z77{y:Str}(hc:X.calm=true)(f:dP X.env.scope X.N ag fr=true)(hi:QI X (.Tuple [.Name x px,.Name y py] k pt) rs iter src)
  (a:(cY [x,y] fr X.N).Nodup) (j:ag.names.lookup x=some .local) (b:ag.names.lookup y=some .local)
  (l:∀cl C s0 H0 ex aa,QTs (cxComp X (cY [x,y] fr X.N) ag cl C s0 H0 ex aa) ifs fc)
  (he:∀cl C s0 H0 ex aa,QE (cxComp X (cY [x,y] fr X.N) ag cl C s0 H0 ex aa) true [] elt fe)
  (hs:∀x,foldedSetIterable iter X.env x=pure x:=by intro _;rfl) :
  QE X true [] (.ListComp elt [⟨.Tuple [.Name x px,.Name y py] k pt,iter,ifs,0⟩] ag ai) (cX fr src (un2 fc) (un2 fe)) :=
 .mk (Z4d (tgs:=[x,y]) (tt:=tDT X.K fc) (te:=tD X.K true [] fe) hc f hi (λcl C s0 H0 ex aa=>Z7k (X:=cxComp X (cY [x,y] fr X.N) ag cl C s0 H0 ex aa) hc (fN (dM (i:=0) a rfl (.inl (lookup_relabel_local j)) (.inr (lookup_relabel_local j))) (fN (dM (i:=1) a rfl (.inl (lookup_relabel_local b)) (.inr (lookup_relabel_local b))) sN))) l he hs) λσ H Q h=>Z3v h
def Reps.consR{K:Frag}{st:Bool}{H:Hp}{d:D}{v:V}{f1 a:Ab Af}{ds:Ab D}{vs:Ab V}(f:Rep K st H d v f1)(b:Reps K st H ds vs a):Reps K st H (d::ds) (v::vs) (f1++a):=by
 simp only[Reps];exact⟨v,vs,f1,a,rfl,rfl,f,b⟩
def Z9a:V->Ab V->Hp->VK->Prop:=λx vs H Q=>∃i:Int,x=.int i/\vs=[]/\Q (.int ((Builtin.Int.intBits i:Nat):Int)) H
def Z5E:MtR X "int.bit_length" Z9a:=by
 intro aa s σ H x vs v us Q I b a h;obtain⟨i,rfl,rfl,q⟩:=h;obtain⟨t,rfl⟩:=b;cases a;exact call_int_bit_length ⟨.int ((Builtin.Int.intBits i:Nat):Int),H,I.tok _,⟨_,rfl⟩,q⟩
def Z86(fa:En->Aa D):En->Aa D:=λac=>match fa ac with
 |some (.int i)=>some (.int ((Builtin.Int.intBits i:Nat):Int))
 |_=>none
def Z9r(h:QE X m1 rs1 a fa)(f:attributeBase a "bit_length" X.env (eval a X.env)=eval a X.env:=by rfl)(b:(apos.endLine==cpos.line)=true:=by rfl) :
  QE X m rs (.Call (.Attribute a "bit_length" apos) [] [] cpos) (Z86 fa) :=
 .mk (ZbT PySem.F.plainAttrs_int slot_int_bit_length type_int_bit_length Z5E h f b) λσ H Q ⟨ac,F,d,ok,e,q⟩=>by
  unfold Z86 at e;split at e
  .rename_i i h1;cases e;refine⟨ac,F,_,ok,h1,λv H' fp s r c=>?_⟩;rw[bS r];exact⟨rfl,i,rfl,rfl,q _ H' [] s eY .nil⟩
  .cases e
def Z5P(x:D):Ab D->Aa Nat
 |[]=>none
 |y::ys=>match eqN 8 y x with
  |some true=>some 0
  |some false=>(Z5P x ys).map (· + 1)
  |none=>none
theorem Z1N:∀{ys:Ab D}{j:Nat},Z5P x ys=some j->(∃z,ys[j]?=some z/\eqN 8 z x=some true)/\∀(i:Nat) z,i<j->ys[i]?=some z->eqN 8 z x=some false
 |[],j,h=>by simp[Z5P]at h
 |y::ys,j,h=>by
  simp only[Z5P]at h;split at h
  .rename_i e;cases h;exact⟨⟨y,rfl,e⟩,λi z hi=>absurd hi (Nat.not_lt_zero _)⟩
  .rename_i e;cases hq:Z5P x ys with
   |none=>rw[hq]at h;cases h
   |some k =>
    rw[hq]at h;cases h;obtain⟨a,b⟩:=Z1N hq;refine⟨by simpa using a,λi z hi hz=>?_⟩;cases i with
    |zero=>simp at hz;subst hz;exact e
    |succ i=>exact b i z (Nat.lt_of_succ_lt_succ hi) (by simpa using hz)
  .cases h
def Zax(x:D)(ys:Ab D):Aa Nat:=if inD x ys=some true then Z5P x ys else none
def ZbA(K:Frag):V->Ab V->Hp->VK->Prop:=λx vs H Q=>∃d ys f1 f2 st1 st2 v j,vs=[v]/\Rep K st1 H (.lst ys) x f1/\Rep K st2 H d v f2/\Zax d ys=some j/\ys.length<=1000/\Q (.int (j:Nat)) H
def Z7z(hu:X.A.units+9<=cLine):MtR X "list.index" (ZbA X.K):=by
 intro aa s σ H x vs v us Q I O M h;obtain⟨d,ys,f1,f2,Y,W,vd,j,rfl,S,R,a,hl,q⟩:=h;obtain⟨u,rfl,L⟩:=M.one;obtain⟨p,ws,_,rfl,hs,G,_⟩:=cB S;cases O;obtain⟨ak,w,pl,hz⟩:=I.list hs;unfold Zax at a;split at a
 .rename_i J;obtain⟨N,h1,h2⟩:=Z4m (A:=X.A.in1) I (by rw[mC];omega) R L G w J;obtain⟨⟨z,C,P⟩,T⟩:=Z1N a;have l1:=G.length;have l2:=w.length;have B:j<ak.length:=by have:=(Qah.mp C).1;omega
  obtain⟨o,n,hp,hc,b,l⟩:=id pl;obtain⟨Z,od,U,E⟩:=o;simp only at hc b l;subst hc b l;refine call_meets PySem.F.slot_list_index pl.isList.typeIs PySem.F.entry_list_index (PySem.F.args_list_index_2 _ _) (PySem.SeqAt.list_indexAt p ak.toArray n none E u N j (by simpa using B) (by omega) ?_ ?_) ⟨hp,λy hy=>h1 y (by simpa using hy),?_⟩
  .exact h2 j _ z true (by simp[Qam B]) C P
  .intro i hi t;have r:i<ak.length:=by simpa using hi
   have f:i<ys.length:=by omega
   exact h2 i _ _ false (by simp[Qam r]) (Qam f) (T i _ t (Qam f))
  .exact⟨.int (j:Nat),H,I.tok _,⟨_,rfl⟩,q⟩
 .cases a
def Zaf(fa fb:En->Aa D):En->Aa D:=λac=>match fa ac,fb ac with
 |some (.lst ys),some x=>if ys.length<=1000 then(Zax x ys).map λj=>.int (j:Nat) else none
 |_,_=>none
def Z1t(w:X.A.units+9<=cLine)(t:QE X m1 rs1 a fa)(u:QE X m2 rs2 b fb)
  (i:attributeBase a "index" X.env (eval a X.env)=eval a X.env:=by rfl)
  (n:((backTo cpos (starEach [b] X.env)).all (fun x=>!x.1) && (backToKw cpos (keywordEach [] X.env)).all (fun x=>x.1.isSome)
   && decide (([b]:Ab Ag).length+([]:Ab Keyword).length+(if ([]:Ab Keyword).isEmpty then 0 else 1)<30))=true:=by rfl)
  (h:(apos.endLine==cpos.line)=true:=by rfl) (l:starEach [b] X.env=(false,eval b X.env)::starEach [] X.env:=by rfl) (f:(backTo cpos (starEach [] X.env)).any (·.1)=false:=by rfl) :
  QE X m rs (.Call (.Attribute a "index" apos) [b] [] cpos) (Zaf fa fb) :=
 .mk (S6 Qbw PySem.F.slot_list_index PySem.F.type_list_index (Z7z w) t (pa_cons u pa_nil l) i n h l f) λσ H Q ⟨ac,F,d,ok,e,q⟩=>by
  unfold Zaf at e;split at e
  .rename_i ys x h1 h2;split at e
   .rename_i y;cases o:Zax x ys with
    |none=>rw[o]at e;cases e
    |some j =>
     rw[o]at e;cases e;refine⟨ac,F,_,ok,h1,λv H1 fp1 s1 r1 c1=>?_⟩;obtain⟨p,ws,_,hp,r,_⟩:=cB r1;subst hp;refine⟨.inl ⟨rfl,ws,r⟩,ac,F,_,ok.same s1,h2,λv2 H2 fp2 s2 r2 c2=>?_⟩;exact⟨x,ys,fp1,fp2,m1,m2,v2,j,rfl,Rep.same s2 r1,r2,o,y,q _ H2 [] (s1.trans s2) eY .nil⟩
   .cases e
  .cases e
def nH(i:Nat)(fk f:En->Aa D):En->Res:=λac=>match f ac,fk ac,ac[i]? with
 |some d,some (.int k),some (some (true,.lst ds))=>match ixN ds.length k with
  |some j=>match ds[j]? with
   |some (.lst es)=>if es.length<=1000/\flats es=true/\flat d=true then .next (ac.set i (some (true,.lst (ds.set j (.lst (es++[d])))))) else .bad
   |_=>.bad
  |none=>.bad
 |_,_,_=>.bad
def Z5k
  (hpe:PE X (.Call (.Attribute (.Subscript (.Name x p) k p3) "append" apos) [e] [] cpos) (tBM X.K "list" Z5 (tOp (rIx X.K) (X1 i) (tD X.K m2 rs2 fk)) (Z6x (tD X.K m1 rs1 f) Z8F)))
  (hs:swapsWith (.Call (.Attribute (.Subscript (.Name x p) k p3) "append" apos) [e] [] cpos) none ai.line X.env=pure false:=by rfl) :
  QS X (.Expr (.Call (.Attribute (.Subscript (.Name x p) k p3) "append" apos) [e] [] cpos) ai) (nH i fk f):=.mk (vV hpe hs) λE σ H ⟨P,ac,I,q⟩=>by
 obtain⟨F,hF⟩:=I.ex;unfold nH at q;split at q
 .rename_i d k ds h1 T h2;split at q
  .rename_i j U;split at q
   .rename_i es y;split at q
    .rename_i h;obtain⟨v,n,_⟩:=hF.ok i true _ h2;obtain⟨o,o2,S,o4⟩:=hF.own i _ h2;obtain⟨a,vs,fp',rfl,l,G,B⟩:=mG (S v n);obtain⟨b,us,O,L,J,C,b5⟩:=Reps.modify B y h.2.1;have Q:atI vs k=some (.ref b):=by unfold atI;rw[B.length,U];exact O
     refine⟨.ref a,n,ac,F,_,hF.ok,T,λvk H0 fp0 s0 r0 c0=>?_⟩;rw[bS r0];refine .inl ⟨a,vs,k,.ref b,rfl,rfl,SqL.of (s0 _ _ G),Q,.inl ⟨rfl,us,SqL.of (s0 _ _ L)⟩,ac,F,d,hF.ok.same s0,h1,λw H' fp s1 r c=>?_⟩;have s:Same H H':=s0.trans s1;have t:=s _ _ L;refine⟨b,us,w,rfl,rfl,t,gD (by rw[J.length];exact h.1),q _ _ ?_⟩;obtain⟨g1,Y⟩:=Rep.flat _ _ _ h.2.2 r;have M:fp'.Nodup:=by rw[l]at o;exact(Qav.mp o).2
     have R:a≠b:=λz=>by rw[l]at o;exact(Qav.mp o).1 (z ▸ C)
     obtain⟨b',Z,c1,c2,c3,c4,W⟩:=Reps.modify (B.same s) y h.2.1;have N:b'=b:=by rw[O]at c1;cases c1;rfl
     subst N;have A:=W M (us++[w]) (es++[d]) (by have:=(J.same s).snoc (Y true);simpa using this);refine Z6q (I.same.trans s) I.len (hF.grow s) h2 n (by rw[l];exact Qaa _ C) t (by intro xs z;cases z) (by intro x u z;cases z) (λst=>?_);rw[l];exact Z2O (by rw[aY R];exact s _ _ G) A
    .exact q.elim
   .exact q.elim
  .exact q.elim
 .exact q.elim
def S4(i:Nat)(q:QE X m2 rs2 k fk)(he:QE X m1 rs1 e f)(t:X.N[i]?=some x:=by rfl)(r:Vis X.env.scope x:=by first|exact Or.inl rfl|exact Or.inr (Or.inl rfl)|exact Or.inr (Or.inr rfl))(hd:nDb x:=by decide)(o:(x==("__classdict__" : Str))=false:=by decide)
  (n:xC k:=by exact λ_ _=>rfl)
  (h:attributeBase (.Subscript (.Name x p) k p3) "append" X.env (eval (.Subscript (.Name x p) k p3) X.env)=eval (.Subscript (.Name x p) k p3) X.env:=by rfl)
  (l:((backTo cpos (starEach [e] X.env)).all (fun x=>!x.1) && (backToKw cpos (keywordEach [] X.env)).all (fun x=>x.1.isSome)
   && decide (([e]:Ab Ag).length+([]:Ab Keyword).length+(if ([]:Ab Keyword).isEmpty then 0 else 1)<30))=true:=by rfl)
  (b:(apos.endLine==cpos.line)=true:=by rfl) (j:starEach [e] X.env=(false,eval e X.env)::starEach [] X.env:=by rfl) (a:(backTo cpos (starEach [] X.env)).any (·.1)=false:=by rfl)
  (hs:swapsWith (.Call (.Attribute (.Subscript (.Name x p) k p3) "append" apos) [e] [] cpos) none ai.line X.env=pure false:=by rfl) :
  QS X (.Expr (.Call (.Attribute (.Subscript (.Name x p) k p3) "append" apos) [e] [] cpos) ai) (nH i fk f) :=
 Z5k (hpe:=S6 Qbw PySem.F.slot_list_append PySem.F.type_list_append sR (Z4c Z0j (mL t r hd o) q n) (pa_cons he pa_nil j) h l b j a) (hs:=hs)
end PD
namespace L2
open PySem PySem.Spec PyProof.Rows
def Z8j:bootBuiltins "zip" = some (.type "zip"):=by decide +kernel
def tU:Builtin.Range.rangeSize i j (-1)=if j<i then i-j else 0:=by
 unfold Builtin.Range.rangeSize;split<;>split<;>simp_all<;>omega
def Z4Z(h1:-(2^62)<=i)(h2:i<2^62)(h3:-(2^62)<=j)(a:j<2^62):Builtin.Range.small i j (-1)=true:=by
 have e:=@tU i j;unfold Builtin.Range.small;rw[e];clear e;simp only[Builtin.Range.rangeFitsLong,Qak,Rj];split<;>(refine⟨?_,?_⟩<;>simp<;>omega)
end L2
namespace PD
open PySem PySem.Spec PyProof.Rows L2
def Zdh(ta:TA):TI:=λσ H R=>ta σ H λvs H1=>∃i j:Int,vs=[.int i,.int j,.int (-1)]/\(-(2^62)<=i/\i<2^62 /\ -(2^62)<=j/\j<2^62)/\R (Itd i (i-j).toNat) H1
def Zak{lo hi:Int}(I:Inv X aa σ H s)(h1:-(2^62)<=lo)(h2:lo<2^62)(h3:-(2^62)<=hi)(f:hi<2^62)
  (q:R (Itd lo (lo-hi).toNat) H):wpAny (model X.prog X.w) X.A (pyIter (.ref s.heap.objs.size)) (PIE X aa σ tg R) E { s with heap:=s.heap.push { cls:=.type "range",data:=.fields #[.int lo t,.int hi u,.int (-1) v] },toks:=tk }:=by
 refine wpAny_pyIter_range (IsRange.new ..) (Z4Z h1 h2 h3 f) ?_;have a:Inv X aa σ H { s with heap:=s.heap.push { cls:=.type "range",data:=.fields #[.int lo t,.int hi u,.int (-1) v] },toks:=tk }:=I.kept λb o e=>Qac _ e;refine⟨(s.heap.push { cls:=.type "range",data:=.fields #[.int lo t,.int hi u,.int (-1) v] }).objs.size,[(s.heap.push { cls:=.type "range",data:=.fields #[.int lo t,.int hi u,.int (-1) v] }).objs.size],_,_,H,rfl,
  a.kept (t':=tk) λb o e=>Qac _ e,Z4U _ lo (lo-hi).toNat,?_,λb hb=>?_,q⟩
 .have h:lo+((0:Nat):Int)*(-1)=lo:=by simp
  have i:(((lo-hi).toNat:Nat):Int)-((0:Nat):Int)=Builtin.Range.rangeSize lo hi (-1):=by rw[tU];split<;>omega
  show IsRangeIter _ _ (lo+((0:Nat):Int)*(-1)) ((((lo-hi).toNat:Nat):Int)-((0:Nat):Int)) (-1);rw[h,i];exact Qas _ rfl
 .have e:b=(s.heap.push { cls:=.type "range",data:=.fields #[.int lo t,.int hi u,.int (-1) v] }).objs.size:=by simpa using hb
  subst e;exact a.fpOk (Qap _) (a.hok.fresh (Qap _))
def Z5q(v:Gl X "range")(w:X.mg "range" = none)(o:PA X [a,b,c] ta)(hs:starEach [a,b,c] X.env=(false,eval a X.env)::starEach [b,c] X.env:=by rfl)(l:(backTo ai (starEach [b,c] X.env)).any (·.1)=false:=by rfl) :
  PI X tg (.Call (.Name "range" p) [a,b,c] [] ai) (Zdh ta):=by
 intro aa s σ H R I h;refine Call_ (uU I v w boot_range (PyProof.Rows.callWith_type1 (thn (o ai aa s σ H _ I h) λus s1 ⟨vs,H1,I1,r1,f⟩=>?_) hs l));obtain⟨i,j,e,⟨f,u,n,x⟩,q⟩:=f;subst e;cases r1 with
 |cons r rr =>
  cases rr with
  |cons r' rr =>
   cases rr with
   |cons r'' rr =>
    cases rr;obtain⟨t,rfl⟩:=r;obtain⟨t',rfl⟩:=r';obtain⟨y,rfl⟩:=r'';exact call_range_3 (by decide) (Zak I1 f u n x q) (Or.inl (PyProof.noPylong_small (by omega)))
def Z2r:Ab D->Aa (Ab D)
 |[.int i,.int j,.int k]=>if (-(2^62)<=i/\i<2^62 /\ -(2^62)<=j/\j<2^62)/\k = -1 then some ((List.range (i-j).toNat).map λ(k:Nat)=>.int (i-(k:Int))) else none
 |_=>none
def ZcS{K:Frag}(h:Reps K m H [d,d',d''] vs fp):∃v b a f f' f'',vs=[v,b,a]/\Rep K m H d v f/\Rep K m H d' b f'/\Rep K m H d'' a f''/\fp=f++(f'++f''):=by
 simp only[Reps]at h;obtain⟨v,r,f1,n,rfl,rfl,h1,b,l,f3,o,rfl,rfl,h2,a,j,i,p,rfl,rfl,h3,rfl,rfl⟩:=h;exact⟨v,b,a,f1,f3,i,rfl,h1,h2,h3,by simp⟩
def Z5l{tg:Ag}(t:Gl X "range")(x:X.mg "range" = none)(o:QA X m1 rs1 [a,b,c] fs)(hs:starEach [a,b,c] X.env=(false,eval a X.env)::starEach [b,c] X.env:=by rfl)(h:(backTo ai (starEach [b,c] X.env)).any (·.1)=false:=by rfl) :
  QI X tg rs (.Call (.Name "range" p) [a,b,c] [] ai) (sB1 Z2r fs) :=
 .mk (Z5q t x o hs h) λσ H R ⟨ac,F,ds,ok,e,q⟩=>by
  unfold sB1 at e;cases h1:fs ac with
  |none=>simp only[h1]at e;cases e
  |some xs =>
   simp only[h1,Qa8]at e;unfold Z2r at e;split at e
   .rename_i i j k;split at e
    .rename_i l;cases e;refine⟨ac,F,_,ok,h1,λvs H' fp s r c=>?_⟩;obtain⟨v,B,A,f,f',y,rfl,w,u,n,rfl⟩:=ZcS r;rw[bS w,bS u,bS n,l.2];exact⟨i,j,rfl,l.1,q _ H' [] s (Z3l _ _) (λb hb=>(by cases hb)) .nil⟩
    .cases e
   .cases e
def qI:Ab D->Ab D->Ab D
 |x::xs,y::ys=>.tup [x,y]::qI xs ys
 |_,_=>[]
theorem Z10:∀(xs ys:Ab D) (i:Nat),(qI xs ys)[i]?=match xs[i]?,ys[i]? with|some x,some y=>some (.tup [x,y])|_,_=>none
 |[],ys,i=>by simp[qI]
 |x::xs,[],i=>by
  simp only[qI,List.getElem?_nil];split<;>simp_all
 |x::xs,y::ys,0=>by simp[qI]
 |x::xs,y::ys,i+1=>by simp only[qI,List.getElem?_cons_succ];exact Z10 xs ys i
theorem Z0Z:∀(xs ys:Ab D),(qI xs ys).length=min xs.length ys.length
 |[],ys=>by simp[qI]
 |x::xs,[]=>by simp[qI]
 |x::xs,y::ys=>by simp only[qI,Qai,Z0Z xs ys];omega
def Z6f:Ab D->Aa (Ab D)
 |[.lst xs,.lst ys]=>some (qI xs ys)
 |_=>none
def Zce(fa:En->Aa D):En->Aa D:=λac=>match fa ac with
 |some (.int i)=>some (.int (-i))
 |_=>none
def Z9j(b:QE X m1 rs1 a fa):QE X m rs (.UnaryOp .USub a ai) (Zce fa) :=
 .mk (L2.pe_un Z6t b) λσ H Q ⟨ac,F,d,ok,e,q⟩=>by
  unfold Zce at e;split at e
  .rename_i i h1;cases e;refine⟨ac,F,_,ok,h1,λv H' fp s r c=>?_⟩;rw[bS r];exact⟨i,rfl,q _ _ _ s eY .nil⟩
  .cases e
end PD
namespace L2
open PySem PySem.Spec PyProof.Rows
def ZaX(I:Inv X aa σ H s)(h:SqT X.K H b (k.map kV)):(tupleKind (fE X.prog X.w)).is s.heap k b:=by
 obtain⟨ak,r,⟨o,h1,h2,n,h3⟩,_⟩:=I.tuple h;exact⟨o,ak.toArray,n,h1,h2,h3,by simpa using T6 r⟩
end L2
namespace PD
open PySem PySem.Spec PyProof.Rows L2
def oP:D->Aa Key
 | .int i=>some (.inl i)
 | .str x=>some (.inr x)
 |_=>none
def oO{K:Frag}{st:Bool}(e:oP d=some k)(r:Rep K st H d v fp):v=kV k:=by
 cases d with
 |int i=>cases e;exact bS r
 |str x=>cases e;exact cS r
 |_=>cases e
section
variable {κ:Type}[DecidableEq κ]
def lC{α:Type}:Ab κ->Ab α->κ->Aa α
 |k'::ks,d::ds,k=>if k'=k then some d else lC ks ds k
 |_,_,_=>none
def Z36(k:κ)(ks:Ab κ):Bool:=decide (k∈ks)
def Z5m(ks:Ab κ)(k:κ):Ab κ:=if k∈ks then ks else ks++[k]
def P4{α:Type}(ks:Ab κ)(xs:Ab α)(k:κ)(x:α):Ab α:=if k∈ks then List.zipWith (λk' y=>if k'=k then x else y) ks xs else xs++[x]
def Z11{k:κ}:C5 (ks.zip vs) k=lC ks vs k:=by
 induction ks generalizing vs with
 |nil=>simp[lC,C5]
 |cons k' ks ih =>
  cases vs with
  |nil=>simp[lC,C5]
  |cons v vs =>
   rw[Qba];unfold lC;by_cases h:k'=k
   .rw[if_pos h,Z12 (by exact h)]
   .rw[if_neg h,Z13 (by exact h)];exact ih
def Zav{ks:Ab κ}(a:ks.length=vs.length):((ks.zip vs).any λb=>decide (b.1=k))=decide (k∈ks):=by
 induction ks generalizing vs with
 |nil=>simp
 |cons k' ks ih =>
  cases vs with
  |nil=>cases a
  |cons v vs =>
   rw[Qba,List.any_cons,ih (by simpa using a)];by_cases h:k'=k
   .subst h;simp
   .have h':¬k=k':=λz=>h z.symm;simp[h,h']
def Z9W{ks:Ab κ}{v:V}:(ks.zip vs).map (λa=>if a.1=k then(a.1,v) else a)=ks.zip (List.zipWith (λk' y=>if k'=k then v else y) ks vs):=by
 induction ks generalizing vs with
 |nil=>simp
 |cons k' ks ih =>
  cases vs with
  |nil=>simp
  |cons v' vs =>
   simp only[Qba,Qan,List.zipWith_cons_cons,ih];split<;>rfl
def Z7c{ks:Ab κ}{v:V}(a:ks.length=vs.length):tL (ks.zip vs) k v=(Z5m ks k).zip (P4 ks vs k v):=by
 unfold tL Z5m P4;rw[Zav a];by_cases h:k∈ks
 .simp only[h,decide_true,Rk];exact Z9W
 .simp only[h,decide_false,Qbd,Rl];rw[List.zip_append a];rfl
def Z7b{k:κ}(a:ks.length=xs.length):(Z5m ks k).length=(P4 ks xs k x).length:=by
 unfold Z5m P4;split
 .simp[a]
 .simp[a]
theorem T8{K:Frag}{st:Bool}:∀{ks:Ab κ}{ds:Ab D}{vs:Ab V}{fp:Ab Af}{d:D},Reps K st H ds vs fp->lC ks ds k=some d->∃v f,lC ks vs k=some v/\Rep K st H d v f/\(∀b∈f,b∈fp)
 |[],ds,vs,fp,d,r,e=>by simp[lC]at e
 |k'::ks,[],vs,fp,d,r,e=>by simp[lC]at e
 |k'::ks,x::ds,vs,fp,d,r,e=>by
  simp only[Reps]at r;obtain⟨v,us,f1,l,rfl,rfl,i,a⟩:=r;unfold lC at e ⊢;by_cases h:k'=k
  .rw[if_pos h]at e ⊢;cases e;exact⟨v,f1,rfl,i,λb hb=>Qar _ hb⟩
  .rw[if_neg h]at e ⊢;obtain⟨j,f,h1,h2,h3⟩:=T8 a e;exact⟨j,f,h1,h2,λb hb=>Qae _ (h3 b hb)⟩
theorem T9:∀{ks:Ab κ}{xs:Ab α},ks.length=xs.length->(lC ks xs k).isSome=Z36 k ks
 |[],xs,h=>by simp[lC,Z36]
 |k'::ks,[],h=>by cases h
 |k'::ks,x::xs,h=>by
  unfold lC;by_cases a:k'=k
  .subst a;simp[Z36]
  .rw[if_neg a,T9 (by simpa using h)];have h':¬k=k':=λz=>a z.symm;simp[Z36,h']
theorem yQ{K:Frag}{st:Bool}(a:Rep K st H d v []):∀{ks:Ab κ}{ds:Ab D}{vs:Ab V},Reps K st H ds vs []->Reps K st H (List.zipWith (λk' y=>if k'=k then d else y) ks ds) (List.zipWith (λk' y=>if k'=k then v else y) ks vs) []
 |[],ds,vs,r=>by simp only[List.zipWith_nil_left,Reps];exact⟨trivial,trivial⟩
 |k'::ks,[],vs,r=>by
  simp only[Reps]at r;obtain⟨rfl,_⟩:=r;simp only[List.zipWith_nil_right,Reps];exact⟨trivial,trivial⟩
 |k'::ks,x::ds,vs,r=>by
  simp only[Reps]at r;obtain⟨w,us,f1,i,rfl,e,h,f⟩:=r;obtain⟨rfl,rfl⟩:=List.append_eq_nil_iff.mp e.symm;have b:=yQ (k:=k) a (ks:=ks) f;simp only[List.zipWith_cons_cons,Reps];refine⟨_,_,[],[],rfl,rfl,?_,b⟩;split
  .exact a
  .exact h
def Z7a{K:Frag}{st:Bool}{ks:Ab κ}(a:Rep K st H d v [])(r:Reps K st H ds vs []):Reps K st H (P4 ks ds k d) (P4 ks vs k v) []:=by
 unfold P4;split
 .exact yQ a r
 .have:=Reps.snoc r a;simpa using this
end
def Zdb{K:Frag}(hq:H q=none)(a:ks.length=vs.length)(h:Reps K m H ds vs fp):Rep K m (upd H q (.dK (ks.zip vs))) (.dk ks ds) (.ref q) (q::fp):=by
 simp only[Rep];exact⟨q,vs,fp,rfl,rfl,bC,a,h.same (bV hq)⟩
def gY{K:Frag}:Reps K m H [] [] []:=by simp only[Reps];exact⟨trivial,trivial⟩
def Z1u:QE X true [] (.Dict [] [] ai) (fC (.dk [] [])):=.mk L2.pe_dnewK λσ H Q ⟨ac,F,d,ok,e,q⟩=>by
 cases e;intro p hp;exact q _ _ [p] (bV hp) (Zdb (ks:=[]) (vs:=[]) hp rfl gY) (mZ (m:=true) (K:=X.K) (Same.refl H) hp (gY (m:=true)) .nil)
def Z0w(fa fb:En->Aa D):En->Aa Bool:=λac=>match fa ac,fb ac with
 |some x,some (.dk ks ds)=>match oP x with
  |some k=>some (Z36 k ks)
  |none=>none
 |_,_=>none
def Q8{K:Frag}{H:Hp}{Q:VK}(neg:Bool){ac:En}{F:Nat->Ab Af}{f:Bool}(ok:EnvOk K H σ ac F)(e:Z0w fa fb ac=some f)(q:∀H',Same H H'->Q (.bl (if neg then !f else f)) H') :
  tD K m1 rs1 fa σ H λy H1=>tD K m2 rs2 fb σ H1 λx H2=>∃a o,x=.ref a/\DGet H2 a y o/\Q (.bl (if neg then !o.isSome else o.isSome)) H2:=by
 unfold Z0w at e;split at e
 .rename_i x ks ds h1 h2;cases b:oP x with
  |none=>rw[b]at e;cases e
  |some k =>
   rw[b]at e;cases e;refine two ok h1 h2 λv u H' f1 f2 s r1 r2 _ _=>?_;rw[oO b r1];simp only[Rep]at r2;obtain⟨a,vs,fp',rfl,rfl,hs,h,i⟩:=r2;refine⟨a,_,rfl,DGet.k hs,?_⟩;rw[Z11,T9 h];exact q H' s
 .cases e
def ZbC(i:X.A.units+1<cLine)(h:QE X m1 rs1 a fa)(f:QE X m2 rs2 b fb)(j:behindInMarks .In b=false:=by with_unfolding_all rfl):QT X (.Compare a [.In] [b] ai) (Z0w fa fb) :=
 .mk (L2.pt_cmp (ZbU i h f) j) λσ H Q ⟨ac,F,bb,ok,e,q⟩=>Q8 (Q:=λv H'=>∃k,v=.bl k/\Q k H') false ok e λH' s=>⟨bb,rfl,q H' s⟩
def Z5i(j:X.A.units+1<cLine)(i:QE X m1 rs1 a fa)(f:QE X m2 rs2 b fb)(h:behindInMarks .NotIn b=false:=by with_unfolding_all rfl):QT X (.Compare a [.NotIn] [b] ai) (cH (Z0w fa fb)) :=
 .mk (L2.pt_cmp (Z5t j i f) h) λσ H Q ⟨ac,F,bb,ok,e,q⟩=>by
  unfold cH at e;cases h1:Z0w fa fb ac with
  |none=>rw[h1]at e;cases e
  |some b' =>
   rw[h1]at e;cases e;exact Q8 (Q:=λv H'=>∃k,v=.bl k/\Q k H') true ok h1 λH' s=>⟨_,rfl,q H' s⟩
def Z1Z(fa fb:En->Aa D):En->Aa D:=λac=>match fa ac,fb ac with
 |some (.dk ks ds),some x=>match oP x with
  |some k=>match lC ks ds k with
   |some d=>if flat d=true then some d else none
   |none=>none
  |none=>none
 |_,_=>none
def Z46(p:X.A.units+1<cLine)(j:QE X m1 rs1 a fa)(l:QE X m2 rs2 b fb)(hs:Zco b:=by intro _ _;rfl):QE X m rs (.Subscript a b ai) (Z1Z fa fb) :=
 .mk (L2.pe_dget p j l hs) λσ H Q ⟨ac,F,d,ok,e,q⟩=>by
  unfold Z1Z at e;split at e
  .rename_i ks ds x h1 h2;cases f:oP x with
   |none=>rw[f]at e;cases e
   |some k =>
    rw[f]at e;simp only at e;cases h:lC ks ds k with
    |none=>rw[h]at e;cases e
    |some d' =>
     rw[h]at e;simp only at e;split at e
     .rename_i r;cases e;refine two ok h1 h2 λv u H' f1 f2 s r1 r2 _ _=>?_;rw[oO f r2];simp only[Rep]at r1;obtain⟨a,vs,fp',rfl,rfl,i,y,t⟩:=r1;obtain⟨w,g,n,o,B⟩:=T8 t h;refine⟨a,w,rfl,?_,q w H' [] s ((Rep.flat _ _ _ r o).2 m) .nil⟩;have:=DGet.k (k:=k) i;rw[Z11,n]at this;exact this
     .cases e
  .cases e
def Z2w{K:Frag}(E:Same P H)(N:σ.length=ac.length)(h:EnvS K P H σ ac F)(r:ac[i]?=some (some (true,d0)))
  (C:σ[i]?=some (some (.ref a))) (hF:F i=a::fp') (I:H a=some o) (J:∀xs,o ≠ .tup xs) (M:∀x u,o ≠ .frz x u) (t:∀st,Rep K st (upd H a o') d1 (.ref a) (a::fp2)) (nd:(a::fp2).Nodup) (n:∀b∈fp2,b∈fp'\/(P b=none/\∀j s,ac[j]?=some (some s)->b∉F j)) :
  SInv K P (upd H a o') σ (ac.set i (some (true,d1))):=by
 have hi:i<ac.length:=(Qah.mp r).1;obtain⟨R,A,Q,q⟩:=h.own i _ r;have l:a∈F i:=by rw[hF];exact Qag
 have B:∀{fp:Ab Af},a∉fp->Kp fp H (upd H a o'):=λn=>Kp.upd I J M n;refine⟨λb o e=>?_,by simp[N],Z1T F i (a::fp2),λj o d e=>?_,λj d e=>?_⟩
 .have:b≠a:=λz=>by have:=A a l;rw[z,this]at e;cases e
  rw[aY this];exact E _ _ e
 .rw[cW hi]at e;by_cases f:j=i
  .subst f;rw[if_pos rfl]at e;cases e;exact⟨_,C,by rw[bY];exact t false⟩
  .rw[if_neg f]at e;obtain⟨w,h1,h2⟩:=h.ok j o d e;exact⟨w,h1,by rw[bE f];exact Rep.keep _ _ _ (B (q j _ f e a l)) h2⟩
 .rw[cW hi]at e;by_cases f:j=i
  .subst f;rw[if_pos rfl]at e;cases e;refine⟨by rw[bY];exact nd,λb hb=>?_,λw hw=>?_,λk s hk ek b hb=>?_⟩
   .rw[bY]at hb;rcases Qab.mp hb with z|z
    .rw[z];exact A a l
    .rcases n b z with y|y
     .exact A b (by rw[hF];exact Qaa _ y)
     .exact y.1
   .rw[C]at hw;cases hw;rw[bY];exact t true
   .rw[bY]at hb;rw[bE hk];rw[cW hi,if_neg hk]at ek;rcases Qab.mp hb with z|z
    .rw[z];exact q k s hk ek a l
    .rcases n b z with y|y
     .exact q k s hk ek b (by rw[hF];exact Qaa _ y)
     .exact y.2 k s ek
  .rw[if_neg f]at e;obtain⟨L,O,G,v⟩:=h.own j d e;refine⟨by rw[bE f];exact L,λb hb=>O b (by rw[bE f]at hb;exact hb),λw hw=>by rw[bE f];exact Rep.keep _ _ _ (B (q j _ f e a l)) (G w hw),λk s hk ek b hb=>?_⟩;rw[bE f]at hb;rw[cW hi]at ek;by_cases p:k=i
   .subst p;rw[bY];intro z;rcases Qab.mp z with z|z
    .exact v k _ hk r b hb (by rw[z];exact l)
    .rcases n b z with y|y
     .exact v k _ hk r b hb (by rw[hF];exact Qaa _ y)
     .exact y.2 j _ e hb
   .rw[if_neg p]at ek;rw[bE p];exact v k s hk ek b hb
def F4(i:Nat)(fk fv:En->Aa D):En->Res:=λac=>match fv ac,ac[i]?,fk ac with
 |some d,some (some (true,.dk ks ds)),some kd=>match oP kd with
  |some k=>if flats ds=true/\flat d=true/\ks.length<1000 then .next (ac.set i (some (true,.dk (Z5m ks k) (P4 ks ds k d)))) else .bad
  |none=>.bad
 |_,_,_=>.bad
def Z3Z(Q:X.A.units+1<cLine)(i:Nat)(O:QE X m2 rs2 key fk)(U:QE X m1 rs1 value fv)(T:X.N[i]?=some x:=by rfl)(o:Vis X.env.scope x:=by first|exact Or.inl rfl|exact Or.inr (Or.inl rfl)|exact Or.inr (Or.inr rfl))(hd:nDb x:=by decide)(J:(x==("__classdict__" : Str))=false:=by decide)
  (hs:swapsWith value (some (.Subscript (.Name x p) key pos')) ai.line X.env=pure false:=by rfl) :
  QS X (.Assign [.Subscript (.Name x p) key pos'] value ai) (F4 i fk fv):=.mk (Z9v Q (mL T o hd J) O U hs) λE σ H ⟨P,ac,I,q⟩=>by
 obtain⟨F,hF⟩:=I.ex;unfold F4 at q;split at q
 .rename_i d ks ds C h1 h2 h3;cases j:oP C with
  |none=>rw[j]at q;exact q.elim
  |some k =>
   rw[j]at q;simp only at q;split at q
   .rename_i l;obtain⟨w,f,_⟩:=hF.ok i true _ h2;obtain⟨o1,Y,K,Z⟩:=hF.own i _ h2;have t:=K w f;simp only[Rep]at t;obtain⟨a,vs,fp',rfl,G,L,B,W⟩:=t;obtain⟨M,S⟩:=Reps.flat _ _ _ l.1 W;subst M;refine⟨ac,F,d,hF.ok,h1,λv H1 fp s r c=>⟨.ref a,f,ac,F,C,hF.ok.same s,h3,λkv H2 fp2 s2 r2 c2=>?_⟩⟩;obtain⟨_,R⟩:=Rep.flat _ _ _ l.2.1 r;rw[oO j r2];have h:=(s.trans s2) _ _ L;have y:(ks.zip vs).length<sizeLine:=by
     rw[List.length_zip];have:=gD (n:=ks.length) (by omega);omega
    refine⟨a,_,rfl,DPut.k h y,q _ _ ?_⟩;refine Z2w (fp2:=[]) (fp':=[]) (I.same.trans (s.trans s2)) I.len (hF.grow (s.trans s2)) h2 f G h (by intro xs z;cases z) (by intro x u z;cases z) (λst=>?_) (by simp) (λb hb=>(by cases hb));rw[Z7c B];simp only[Rep];refine⟨a,P4 ks vs k v,[],rfl,rfl,bC,Z7b B,?_⟩;refine Reps.keep _ _ _ (Kp.upd (fp:=[]) h (by intro xs z;cases z) (by intro x u z;cases z) (by simp)) ?_;exact Z7a ((R st).same s2) ((S st).same (s.trans s2))
   .exact q.elim
 .exact q.elim
def Z2b(S:PySem.W.KdlSrc prog w T r d n PP OK)(l:A.handled=none)(i:OK s.heap)(u:n<=sizeLine)
  (b:∀(hp:Ah) (tk:Nat) (vs:Ae Ad),(∀c o,s.heap.get? c=some o->hp.get? c=some o)->s.heap.objs.size<hp.objs.size->PySem.ItemsOf PP vs n->Z vs.toList { s with heap:=hp,toks:=tk }) :
  wpAny (model prog w) A (collect (.ref r)) Z E s:=by
 obtain⟨l1,l2⟩:=S.there _ i;unfold collect;refine Ra (wpAny_runValue (codeAny_builtin PyProof.Rows.entry_proto_collect' ?_));rw[Around.under_plainId PySem.F.plain_proto_collect _];show wpAny _ A.in1 (newList [] >>= λp=>again (.builtin "list.__iadd__" ⟨[p,.ref r],[]⟩)) _ _ s;refine Ra (Re (Rb ⟨plainId_quiet PySem.F.plain_list_iadd _,codeAny_builtin PyProof.Rows.entry_list_iadd' ?_⟩));rw[Around.under_plainId PySem.F.plain_list_iadd _];have j:(s.heap.push { cls:=.type "list",data:=.seq ([]:Ab Ad).toArray }).get? s.heap.objs.size=some { cls:=.type "list",data:=.seq #[] }:=Qas _ rfl;have h:=PySem.W.kdl_extend (A:=A) (s:={ s with heap:=s.heap.push { cls:=.type "list",data:=.seq ([]:Ab Ad).toArray } })
  (R:=fun (q:Result) (t:Ac)=>q=.ok (.ret (.ref s.heap.objs.size)) /\ ∃ (hp:Ah) (tk:Nat) (vs:Ae Ad) (k:Nat),t={ s with heap:=hp,toks:=tk } /\ (∀ c o,s.heap.get? c=some o->hp.get? c=some o) /\
   hp.get? s.heap.objs.size=some { cls:=.type "list",dict:=none,data:=.seq vs k,slots:=#[] }/\PySem.ItemsOf PP vs n)
  S l (S.keep _ _ i λc _ o e=>Qac _ e) s.heap.objs.size (Qbu l1) (Qbu l2) (.ref s.heap.objs.size) 0 j
  (λhp tk vs k kept a ak=>⟨rfl,hp,tk,vs,k,rfl,λc o e=>kept c o (QaA (Qal e)) (Qac _ e),a,ak⟩) u
 show wpAny _ A.in1 (Builtin.List.listExtendWith (.ref s.heap.objs.size) (.ref r) (.ref s.heap.objs.size)) _ _ _;refine Rc h (λout t hq=>?_) λx t hq=>(by cases hq.1);cases out with
 |done fl =>
  obtain⟨e,hp,tk,vs,k,rfl,kept,a,ak⟩:=hq;cases e;show wpAny _ A (load s.heap.objs.size >>= _) _ _ _;exact Ra (wpAny_load a (Rb (b hp tk vs kept (Qal a) ak)))
 |again code =>
  refine⟨hq.1,codeAny_mono hq.2 λres t2 hr=>?_⟩;obtain⟨rfl,hp,tk,vs,k,rfl,kept,a,ak⟩:=hr;show wpAny _ A (load s.heap.objs.size >>= _) _ _ _;exact Ra (wpAny_load a (Rb (b hp tk vs kept (Qal a) ak)))
theorem K7:∀{l:Ab Ad}{ns:Ab Int},l.length=ns.length->(∀(j:Nat) (v:Ad),l[j]?=some v->∃n t,ns[j]?=some n/\v=.int n t)->IntsAre l ns
 |[],[],_,_=>.nil
 |[],_::_,h,_=>by cases h
 |_::_,[],h,_=>by cases h
 |v::l,n::ns,h,hv=>by
  obtain⟨a,t,e,rfl⟩:=hv 0 v rfl;cases e;exact .cons n t (K7 (by simpa using h) λj u hu=>hv (j+1) u hu)
def Q0(hc:X.calm=true):CallR X (.builtin "sorted") (λvs H Q=>∃(a:Af) (kvs:Ab (Key×V)) (ns:Ab Int),vs=[.ref a]/\H a=some (.dK kvs)/\kvs.map (·.1)=ns.map Sum.inl/\ns.length<64/\∀l,H l=none->Q (.ref l) (upd H l (.lst ((X4 ns).map V.int)))):=λaa s σ H xs us Q I w h=>by
 obtain⟨a,kvs,ns,rfl,N,B,F,q⟩:=h;obtain⟨u,rfl,r⟩:=tS w;cases (show u=Value.ref a from r)
 obtain⟨z,hd,vs,y,dd⟩:=Z8c I.hok N;obtain⟨ep,K⟩:=dd.dictAt;have p:=y.keys;have M:=y.length;have E:vs.length=ns.length:=by
  have:=congrArg List.length B;simp only[Qad]at this;omega
 have L:vs.length<=sizeLine:=by omega
 refine Calls.call_function_entry kind_sorted plain_sorted entry_sorted (args_sorted1 _) ?_;unfold Builtin.«sorted»;refine Ra (m:=checkCount "sorted" 1 1 _) (Rb ?_);refine Ra (Z2b (A:=X.A.in1) (PySem.W.kdl_dict (knd:=fE X.prog X.w) (kvs:=vs) (ep:=ep) hd) (I.ok.hd hc) K L λhp tk aj kept hlt ak=>?_);have R:IntsAre aj.toList ns:=by
  refine K7 (by rw[Qbj,ak.1,E]) λj v hv=>?_;rw[Array.getElem?_toList]at hv;obtain⟨k,x,P,J⟩:=ak.2 j v hv;have f:(vs.map (·.1))[j]?=some k:=by rw[Qax,P];rfl
  rw[<- p,B,Qax]at f;cases b:ns[j]? with
  |none=>rw[b]at f;cases f
  |some n =>
   rw[b]at f;simp only[QaK,QaO]at f;subst f;rcases eI (show K3 (Sum.inl n) v=true from J)with⟨i,t,e,rfl⟩|⟨x,t,e,_⟩
   .cases e;exact⟨n,t,rfl,rfl⟩
   .cases e
 have G:aj.toList.length<64:=by rw[Qbj,ak.1,E];exact F
 refine Ra (wpAny_newList ?_ (by rw[Qbj,ak.1];exact L));have o:(hp.push { cls:=.type "list",data:=.seq aj.toList.toArray }).get? hp.objs.size=some (seqObj "list" aj.toList.toArray 0):=Qas _ rfl;refine Ra (wpAny_holding (Rf slot_list_sort ⟨_,o,rfl⟩ entry_list_sort (list_sort_tree o R G λout ns' a1 a2 a3=>⟨_,rfl,?_⟩) (args_list_sort _)));refine Rb ⟨_,rfl,?_⟩;obtain⟨O,he⟩:=sortedHeap_at (out:=out) o;have b:ns'=X4 ns:=qW (a2.trans (R0 ns).symm) a3 (yS ns);subst b;refine⟨.ref hp.objs.size,_,I.laid (t':=tk) (λc u e=>?_) (Qbh hlt) (show ObjOk X.prog X.w _ _ _ (.lst ((X4 ns).map V.int)) from⟨?_,out.toList,O,sB a1,?_⟩),rfl,q _ (I.hok.fresh (Qbh hlt))⟩
 .have C:=kept c u e;have h2:=Qal C;rw[sortedHeap_old (QaA h2) (by rw[size_push'];exact Nat.lt_succ_of_lt h2)];exact Qac _ C
 .have:=a2.length_eq;rw[Qad,this];omega
 .rw[Array.toArray_toList];exact he
def sX:Ab Key->Aa (Ab Int)
 |[]=>some []
 | .inl i::r=>(sX r).map (i :: ·)
 | .inr _::_=>none
theorem zA:∀{ks:Ab Key}{ns:Ab Int},sX ks=some ns->ks=ns.map Sum.inl
 |[],ns,h=>by cases h;rfl
 | .inl i::r,ns,h=>by
  unfold sX at h;cases a:sX r with
  |none=>rw[a]at h;cases h
  |some m=>rw[a]at h;cases h;rw[Qan,<- zA a]
 | .inr _::_,ns,h=>by cases h
def Z3C:Ab D->Aa D
 |[.dk ks _]=>match sX ks with
  |some ns=>if ns.length<64 then some (.lst ((X4 ns).map .int)) else none
  |none=>none
 |_=>none
def Z75(hc:X.calm=true)(n:Gl X "sorted")(o:X.mg "sorted" = none)(j:QE X m1 rs1 a fa)(he:starEach [a] X.env=(false,eval a X.env)::starEach [] X.env:=by rfl)(hpl:(backTo ai (starEach [] X.env)).any (·.1)=false:=by rfl) :
  QE X m rs (.Call (.Name "sorted" p) [a] [] ai) (fB1 Z3C (aA fa aF)) :=
 vU (Q0 hc) n o Z2j (aB j aP he) (λds d vs H fp Q e r q=>by
  unfold Z3C at e;split at e
  .rename_i ks xs;cases hq:sX ks with
   |none=>rw[hq]at e;cases e
   |some ns =>
    rw[hq]at e;simp only at e;split at e
    .rename_i h;cases e;obtain⟨v,rfl,i⟩:=kC r;simp only[Rep]at i;obtain⟨p,ws,fp',rfl,rfl,hs,f,t⟩:=i;refine⟨p,_,ns,rfl,hs,?_,h,λl f=>?_⟩
     .rw[<- zA hq,List.map_fst_zip (by omega)]
     .exact q _ _ [l] (bV f) (mP f (sJ (X4 ns))) (λb hb=>by simp at hb;rw[hb];exact f) (by simp)
    .cases e
  .cases e) (he:=he) (hpl:=hpl)
abbrev Itm:=Sum Nat (En->Aa D)
def gB:Ab Itm->En->Aa (Ab D)
 |[],_=>some []
 | .inl i::r,ac=>match ac[i]?,gB r ac with
  |some (some (true,d)),some ds=>some (d::ds)
  |_,_=>none
 | .inr f::r,ac=>match f ac,gB r ac with
  |some d,some ds=>some (d::ds)
  |_,_=>none
def ownOf:Ab Itm->Ab Nat
 |[]=>[]
 | .inl i::r=>i::ownOf r
 | .inr _::r=>ownOf r
def Zbc(K:Frag)(is:Ab Itm):TA:=λσ H Q=>∃P ac F ds,Same P H/\EnvS K P H σ ac F/\gB is ac=some ds /\
 ∀vs H' fp,Same H H'->Reps K true H' ds vs fp->fp.Nodup->(∀b∈fp,P b=none/\(H b=none\/∃i∈ownOf is,∃d,ac[i]?=some (some (true,d))/\b∈F i))->Q vs H'
def QIt(X:Cx)(es:Ab Ag)(is:Ab Itm):Prop:=PA X es (Zbc X.K is)
def Z00:QIt X [] []:=λai aa s σ H Q I ⟨P,ac,F,ds,sm,hF,e,q⟩=>L2.pa_nil ai aa s σ H Q I (by
 cases e;exact q [] H [] (Same.refl H) (by simp only[Reps];exact⟨trivial,trivial⟩) QaD (λb hb=>(by cases hb)))
def Z40(i:Nat)(O:QIt X es is)(u:i∉ownOf is:=by simp[PD.ownOf])(E:X.N[i]?=some x:=by rfl)(G:Vis X.env.scope x:=by first|exact Or.inl rfl|exact Or.inr (Or.inl rfl)|exact Or.inr (Or.inr rfl))(hd:nDb x:=by decide)(w:(x==("__classdict__" : Str))=false:=by decide)
  (h1:starEach (.Name x p::es) X.env=(false,eval (.Name x p) X.env)::starEach es X.env:=by rfl):QIt X (.Name x p::es) (.inl i::is) :=
 λai aa s σ H Q I ⟨P,ac,F,ds,sm,hF,e,q⟩=>L2.pa_cons (mL E G hd w) O h1 ai aa s σ H Q I (by
  unfold gB at e;split at e
  .rename_i d t f C;cases e;obtain⟨v,h,_⟩:=hF.ok i true d f;obtain⟨K,M,A,J⟩:=hF.own i d f;refine⟨v,h,P,ac,F,t,sm,hF,C,λvs H' fp s r nd hb=>?_⟩;refine q (v::vs) H' (F i++fp) s ?_ (Qau.mpr ⟨K,nd,λb hb1 b' hb2 z=>?_⟩) (λb hb'=>?_)
   .simp only[Reps];exact⟨v,vs,F i,fp,rfl,rfl,(A v h).same s,r⟩
   .rw[<- z]at hb2;rcases (hb b hb2).2 with y|⟨k,l,d',j,a⟩
    .obtain⟨o,n⟩:=hF.dom f b hb1;rw[y]at n;cases n
    .exact J k _ (λz=>u (z ▸ l)) j b hb1 a
   .rcases Qaf.mp hb' with z|z
    .exact⟨M b z,.inr ⟨i,by simp[ownOf],d,f,z⟩⟩
    .obtain⟨B,L⟩:=hb b z;exact⟨B,L.imp id λ⟨k,l,d',j,a⟩=>⟨k,by simp[ownOf,l],d',j,a⟩⟩
  .cases e)
def vQ(he:QE X true [] e f)(x:QIt X es is)(h1:sEa e es X.env:=by rfl):QIt X (e::es) (.inr f::is) :=
 λai aa s σ H Q I ⟨P,ac,F,ds,sm,hF,e',q⟩=>L2.pa_cons he x h1 ai aa s σ H Q I (by
  unfold gB at e';split at e'
  .rename_i d n u w;cases e';refine⟨ac,F,d,hF.ok,u,λv H1 fp1 s1 r1 c1=>⟨P,ac,F,n,sm.trans s1,hF.grow s1,w,λvs H' fp s r nd hb=>?_⟩⟩;obtain⟨A,j⟩:=c1.2 rfl;refine q (v::vs) H' (fp1++fp) (s1.trans s) ?_ (Qau.mpr ⟨A,nd,λb hb1 b' hb2 z=>?_⟩) (λb hb'=>?_)
   .simp only[Reps];exact⟨v,vs,fp1,fp,rfl,rfl,r1.same s,r⟩
   .rw[<- z]at hb2;rcases (hb b hb2).2 with y|⟨k,l,d',i,h⟩
    .obtain⟨o,a⟩:=Rep.dom _ _ _ r1 b hb1;rw[y]at a;cases a
    .obtain⟨o,a⟩:=hF.dom i b h;rw[j b hb1]at a;cases a
   .rcases Qaf.mp hb' with z|z
    .exact⟨sm.free (j b z),.inl (j b z)⟩
    .obtain⟨t,p⟩:=hb b z;refine⟨t,?_⟩;rcases p with y|y
     .exact .inl (s1.free y)
     .obtain⟨k,l,d',i,h⟩:=y;exact .inr ⟨k,by simpa[ownOf]using l,d',i,h⟩
  .cases e')
def Z1m(is:Ab Itm):En->Res:=λac=>match gB is ac with
 |some ds=>if ds.length<=1000 then .ret (.tup ds) else .bad
 |none=>.bad
def Z9e(h:QIt X es is):QS X (.Return (some (.Tuple es k1 p3)) ai) (Z1m is):=.mk (gT (L2.pe_tup h)) λE σ H ⟨P,ac,I,q⟩=>by
 obtain⟨F,hF⟩:=I.ex;unfold Z1m at q;split at q
 .rename_i ds f;split at q
  .rename_i a;refine⟨P,ac,F,ds,I.same,hF,f,λvs H' fp s r nd hb=>⟨by rw[r.length];exact Qbh (gD a),λq' hq=>?_⟩⟩;exact q _ _ fp ((I.same.trans s).trans (bV hq)) (xW hq r) (λb hb'=>(hb b hb').1) nd
  .exact q.elim
 .exact q.elim
end PD
namespace HT
open PySem PyProof.Rows
end HT
namespace PD
open PySem PySem.Spec PyProof.Rows L2
def ZcZ(K:Frag):R2:=λx y H Q=>∃l b xs zs,x=.ref l/\y=.ref b/\SqL K H l xs/\SqL K H b zs/\xs.length+zs.length<=sizeLine/\∀p,H p=none->Q (.ref p) (upd H p (.lst (xs++zs)))
def Z9J:OpR X (binaryOp .Add) (ZcZ X.K):=by
 intro aa s σ H x y v u Q I G L h;obtain⟨l,b,xs,P,rfl,rfl,C,J,S,q⟩:=h;cases G;cases L;obtain⟨ak,r,⟨⟨c1,O,t1,i⟩,B,o,k1,k2,k3⟩,N⟩:=I.list C;obtain⟨a,t,⟨⟨c2,R,t2,n⟩,E,p,w,j,f⟩,M⟩:=I.list J;simp only at k1 k2 k3 w j f;subst k1 k2 k3 w j f;have l1:=r.length;have l2:=t.length;refine concat_meets ⟨_,o,rfl⟩ ⟨_,p,rfl⟩ noFill_list_add seq_list_add PySem.F.slot_list_add PySem.F.entry_list_add (PySem.F.args_list_add_2 _ _) (list_addW l b ak.toArray a.toArray B E none none i n (by rw[Qat,Qat];omega)) ⟨o,p,?_⟩;have A:ak.toArray++a.toArray=(ak++a).toArray:=by simp
 rw[A];exact⟨.ref _,_,I.lnew (t':=s.toks) (r.append t) (by rw[Qaj];omega),rfl,q _ I.fresh⟩
def M3(fa fb:En->Aa D):En->Aa D:=λac=>match fa ac,fb ac with
 |some (.lst xs),some (.lst ys)=>if (flats xs=true/\flats ys=true)/\xs.length+ys.length<=1000 then some (.lst (xs++ys)) else none
 |_,_=>none
def Z03(r:QE X m1 rs1 a fa)(w:QE X m2 rs2 b fb):QE X m rs (.BinOp a .Add b ai) (M3 fa fb) :=
 .mk (L2.pe_op Z9J r w) λσ H Q ⟨ac,F,d,ok,e,q⟩=>by
  unfold M3 at e;split at e
  .rename_i xs ys h1 h2;split at e
   .rename_i i;cases e;refine two ok h1 h2 λv u H' f1 f2 s r1 r2 _ _=>?_;obtain⟨p,vs,fp',rfl,l,n,x⟩:=cB r1;obtain⟨t,us,B,rfl,h,f,o⟩:=cB r2;obtain⟨_,A⟩:=Reps.flat _ _ _ i.1.1 n;obtain⟨_,y⟩:=Reps.flat _ _ _ i.1.2 f;have j:=(A m).append (y m);refine⟨p,t,vs,us,rfl,rfl,l,h,nE (by rw[n.length,f.length];exact i.2),λp2 hp=>?_⟩;exact q _ _ [p2] (s.trans (bV hp)) (mP hp j) (mZ (m:=m) (K:=X.K) s hp j .nil)
   .cases e
  .cases e
@[simp] def Z87:aD i ac=(ac[i]?).join.map (·.2):=(rfl)
@[simp] def gM:fC d ac=some d:=(rfl)
def dO{C:Int->Int->Prop}{g:Int->Int->D}{i j:Int}(b:fa ac=some (.int i))(a:fb ac=some (.int j))(hc:C i j):fI2 C g fa fb ac=some (g i j):=by simp[fI2,b,a,hc]
def fU{g:Int->Int->D}{i j:Int}(b:fa ac=some (.int i))(a:fb ac=some (.int j)):fI0 g fa fb ac=some (g i j):=by simp[fI0,b,a]
@[simp] def lR:bD f ac=match f ac with|some d=>if flat d=true then some d else none|none=>none:=(rfl)
@[simp] def tP:fB f ac=match f ac with|some (.bl b)=>some b|_=>none:=(rfl)
@[simp] def iT:dH b ac=(b ac).map .bl:=(rfl)
@[simp] def pN:fV b c ac=match b ac with|some true=>c ac|some false=>some false|none=>none:=(rfl)
@[simp] def qD:fOr b c ac=match b ac with|some false=>c ac|some true=>some true|none=>none:=(rfl)
@[simp] def gC:cH b ac=(b ac).map (!·):=(rfl)
@[simp] def ZaW{α:Type}{c:En->Aa Bool}{f g:En->Aa α}:fIf c f g ac=match c ac with|some true=>f ac|some false=>g ac|none=>none:=(rfl)
@[simp] def Zee:aF ac=some []:=(rfl)
@[simp] def ZdA:aA f fs ac=match f ac,fs ac with|some d,some ds=>some (d::ds)|_,_=>none:=(rfl)
@[simp] def Z3s:tN fs ac=match fs ac with|some ds=>if ds.length<=1000 then some (.tup ds) else none|none=>none:=(rfl)
@[simp] def Z0y:bO fs ac=match fs ac with|some ds=>if ds.length<=1000 then some (.lst ds) else none|none=>none:=(rfl)
@[simp] def lF:fBI p fa fb ac=match fa ac,fb ac with|some (.int i),some (.int j)=>some (p i j)|_,_=>none:=(rfl)
@[simp] def iW:fEq fa fb ac=match fa ac,fb ac with|some x,some y=>eqN 8 x y|_,_=>none:=(rfl)
@[simp] def jH : fIx fa fb ac=match fa ac, fb ac with
 |some (.lst ds),some (.int i)=>atI ds i
 |some (.tup ds),some (.int i)=>atI ds i
 |some (.str z),some (.int i)=>if z.length<=1000 then(atI z.cps.toList i).map λc=>.str ⟨#[c]⟩ else none
 |_,_=>none:=(rfl)
@[simp] def Zef{C : Int->Int->Prop}{g : Int->Int->D} : fI2 C g fa fb ac=match fa ac, fb ac with
 |some (.int i),some (.int j)=>open Classical in if C i j then some (g i j) else none
 |_,_=>none:=(rfl)
@[simp] def Z0z{g : Int->Int->D} : fI0 g fa fb ac=match fa ac, fb ac with
 |some (.int i),some (.int j)=>some (g i j)
 |_,_=>none:=(rfl)
@[simp] def Zel:fB1 F' fs ac=match fs ac with|some xs=>F' xs|none=>none:=by unfold fB1;cases fs ac<;>rfl
@[simp] def Zed:fP f ac=match f ac with|some (.int i)=>some (some i)|_=>none:=(rfl)
@[simp] def Z88:dZ fa ac=match fa ac with|some (.lst ds)=>some ds|some (.tup ds)=>some ds|_=>none:=(rfl)
@[simp] def M4:qG fa fb ac=match fa ac,fb ac with|some (.lst a),some (.lst b)=>if a.length+b.length<=1000 then some (.lst (a++b)) else none|_,_=>none:=(rfl)
def Zdt:fSl fa fl fh ac=match fa ac,fl ac,fh ac with
 |some (.lst ds),some lo,some hi=>if flats ds=true then some (.lst (cutD ds lo hi)) else none
 |some (.tup ds),some lo,some hi=>if flats ds=true/\¬(HT.sIx ds.length 0 lo=0/\HT.sIx ds.length ds.length hi=ds.length) then some (.tup (cutD ds lo hi)) else none
 |_,_,_=>none:=(rfl)
def U8:fIn fa fb ac=match fa ac,fb ac with|some x,some y=>inF x y|_,_=>none:=(rfl)
def Zai:wP fa fb ac=match fa ac,fb ac with|some (.str x),some (.str y)=>if x.length+y.length<=5000 then some (.str (x++y)) else none|_,_=>none:=(rfl)
def Z4C:oQ fa ac=match fa ac with|some (.str x)=>if x.cps.all (· < 128)=true then some (qM x) else none|_=>none:=(rfl)
def Z4D:M3 fa fb ac=match fa ac,fb ac with|some (.lst a),some (.lst b)=>if (flats a=true/\flats b=true)/\a.length+b.length<=1000 then some (.lst (a++b)) else none|_,_=>none:=(rfl)
@[simp] def Zds:aX ac=.next ac:=(rfl)
def LI(xs:Ab Int):D:=.lst (xs.map .int)
def jI(n:Nat)(a b:Int):eqN (n+1) (.int a) (.int b)=some (decide (a=b)):=(rfl)
def eN(n:Nat)(a b:Str):eqN (n+1) (.str a) (.str b)=some (a==b):=(rfl)
def tG(n:Nat)(xs ys:Ab D):eqN (n+1) (.lst xs) (.lst ys)=if xs.length=ys.length then eqL (eqN n) xs ys else some false:=(rfl)
def M5:eqL f (x::xs) (y::ys)=match f x y,eqL f xs ys with|some a,some b=>some (a&&b)|_,_=>none:=by rw[eqL];try (cases f x y<;>cases eqL f xs ys<;>rfl)
def Zaj:eqL f [] ys=some true:=by simp only[eqL]
def nP(x:α)(xs:Ab α):atI (x::xs) 0=some x:=nO (j:=0) rfl
def Z4J(x y:α)(xs:Ab α):atI (x::y::xs) 1=some y:=nO (j:=1) rfl
def Zdx(x y z:α)(xs:Ab α):atI (x::y::z::xs) 2=some z:=nO (j:=2) rfl
def vY(h:-(2^64)<a)(h2:a<2^64):IntMulOk a b:=.of_left (PySem.intBits_le_64 h h2)
def Z09(h:-(2^64)<b)(h2:b<2^64):IntMulOk a b:=.of_right (PySem.intBits_le_64 h h2)
def Zbr(n:Nat):HT.sIx (n+1) 0 (some 1)=1:=by
 have:=HT.sIx_nat (n+1) 0 1;simpa using this
def Zeh(x:D)(xs:Ab D):PD.cutD (x::xs) (some 1) none=xs:=by
 unfold PD.cutD;rw[Qai,Zbr,HT.sIx_none];simp
def nth(vs:Ab Int)(a:Int):Int:=vs.getD a.toNat 0
def Zcn{vs:Ab Int}{a:Int}(f:0<=a)(h1:a<vs.length):atI (vs.map D.int) a=some (.int (nth vs a)):=by
 have e:atI (vs.map D.int) ((a.toNat:Nat):Int)=some (.int (nth vs a)):=by
  refine nO ?_;have b:a.toNat<vs.length:=by omega
  simp[nth,List.getD,b]
 rwa [Int.toNat_of_nonneg f]at e
def mD(xs:Ab Int):flats (xs.map D.int)=true:=tE λd hd=>by
 obtain⟨i,_,rfl⟩:=Qa1.mp hd;rfl
def iC(h:g (eU L ds)=.ret d):cA L g ds=some d:=by unfold cA;rw[h]
def Z52(e:g ac=.next env')(q:h env'=r):aJ g h ac=r:=by unfold aJ;rw[e];exact q
def zO(e:g ac=.ret d):aJ g h ac=.ret d:=by unfold aJ;rw[e]
def wO(h:f ac=some (.lst ds)):dZ f ac=some ds:=by unfold dZ;rw[h]
def Z1f(h:f ac=some d)(q:k (ac.set i (some (true,d)))=r):aJ (bJ i f) k ac=r:=by unfold aJ bJ;rw[h];exact q
def Z90(e:c ac=some true)(q:aJ g k ac=r):aJ (rIf c g h) k ac=r:=by
 unfold aJ rIf at *;rw[e];exact q
def sNo(e:c ac=some false)(q:k ac=r):aJ (rIf c g aX) k ac=r:=by
 unfold aJ rIf;rw[e];exact q
def iY(h:f ac=some d):aZ f ac=.ret d:=by unfold aZ;rw[h]
def vO(h:f ac=some d)(e:ac[i]?=some (some (true,.lst ds)))(a:ds.length<=1000):kD i f ac=.next (ac.set i (some (true,.lst (ds++[d])))):=by unfold kD;rw[h,e];simp[a]
theorem Z1U{g k:En->Res}(I:Nat->En->Prop):∀(ds:Ab D) (n:Nat) (ac:En),(∀i d ac,ds[i]?=some d->I (n+i) ac->∃env1,t d ac=some env1/\((∃env2,(g env1=.next env2\/g env1=.cont env2)/\I (n+i+1) env2)\/(∃d',g env1=.ret d'/\r=.ret d')\/(∃env2,g env1=.brk env2/\k env2=r)))->I n ac ->
  (∀env',I (n+ds.length) env'->k env'=r)->(match rP t g ds ac with | .next e=>k e|r=>r)=r
 |[],n,ac,_,h,q=>by simpa[rP]using q ac (by simpa using h)
 |d::ds,n,ac,st,h,q=>by
  obtain⟨env1,h1,h2⟩:=st 0 d ac rfl h;unfold rP;rw[h1];rcases h2 with⟨env2,h3,h4⟩|⟨d',h3,rfl⟩|⟨env2,h3,h4⟩
  .have ih:=Z1U (k:=k) (r:=r) I ds (n+1) env2 (λi d' e hd hI=>by
    have:=st (i+1) d' e (by simpa using hd) (by rwa [show n+(i+1)=n+1+i by omega])
    rwa [show n+(i+1)+1=n+1+i+1 by omega]at this) h4 (λe he=>q e (by rwa [Qai,show n+(ds.length+1)=n+1+ds.length by omega]))
   rcases h3 with h3|h3<;>(simp only[h3];exact ih)
  .simp only[h3]
  .simp only[h3];exact h4
def Z1g(hs:src ac=some ds)(I:Nat->En->Prop)(b:I 0 (fz rs ac))
  (st:∀i d ac,ds[i]?=some d->I i ac->∃env1,t d ac=some env1/\((∃env2,(g env1=.next env2\/g env1=.cont env2)/\I (i+1) env2)\/(∃d',g env1=.ret d'/\r=.ret d')\/(∃env2,g env1=.brk env2/\k env2=r)))
  (a:∀env',I ds.length env'->k env'=r):aJ (eZ rs src t g) k ac=r:=by
 unfold aJ eZ;rw[hs];exact Z1U I ds 0 _ (λi d e hd hI=>by rw[Qbo]at *;exact st i d e hd hI) b (λe he=>a e (by rwa [Qbo]at he))
def ZcQ(hs:src ac=some ds)(I:Nat->En->Prop)(h:I 0 (fz rs ac))
  (st:∀i d ac,ds[i]?=some d->I i ac->∃env1 env2,t d ac=some env1/\g env1=.next env2/\I (i+1) env2)
  (f:∀env',I ds.length env'->k env'=r):aJ (eZ rs src t g) k ac=r :=
 Z1g hs I h (λi d e hd hI=>let ⟨e1,e2,a,b,c⟩:=st i d e hd hI;⟨e1,a,.inl ⟨e2,.inl b,c⟩⟩) f
theorem V1(a:α->D)(b:α->D):∀(xs:Ab α),(∀x∈xs,fe (some (false,a x)::ac)=some (b x))->dQ fTT fe ac (xs.map a)=some (xs.map b)
 |[],_=>rfl
 |x::xs,h=>by
  have h1:=h x Qag;have f:=V1 a b xs λy hy=>h y (Qaa _ hy);simp only[Qan,dQ,fTT,h1];rw[f]
def jS(a:α->D)(b:α->D){xs:Ab α}(hs:src ac=some (xs.map a))(f:xs.length<=1000)(h:∀x∈xs,fe (some (false,a x)::qH fr ac)=some (b x)) :
  cX fr src fTT fe ac=some (.lst (xs.map b)):=by
 unfold cX;rw[hs];simp only[Qad,f,Rk];rw[V1 a b xs h];rfl
theorem wY(a:α->D)(b:α->D)(p:α->Bool):∀(xs:Ab α),(∀x∈xs,fc (some (false,a x)::ac)=some (p x))->(∀x∈xs,p x=true->fe (some (false,a x)::ac)=some (b x))->dQ fc fe ac (xs.map a)=some ((xs.filter p).map b)
 |[],_,_=>rfl
 |x::xs,hc,h=>by
  have h1:=hc x Qag;have f:=wY a b p xs (λy hy=>hc y (Qaa _ hy)) λy hy=>h y (Qaa _ hy);simp only[Qan,dQ,h1];cases hp:p x with
  |true =>
   have h2:=h x Qag hp;simp only[h2,f,List.filter_cons,hp,Rk,Qan]
  |false=>simp only[f,List.filter_cons,hp];simp
def lQ(a:α->D)(b:α->D)(p:α->Bool){xs:Ab α}(hs:src ac=some (xs.map a))(f:xs.length<=1000)(hc:∀x∈xs,fc (some (false,a x)::qH fr ac)=some (p x))(h:∀x∈xs,p x=true->fe (some (false,a x)::qH fr ac)=some (b x)) :
  cX fr src fc fe ac=some (.lst ((xs.filter p).map b)):=by
 unfold cX;rw[hs];simp only[Qad,f,Rk];rw[wY a b p xs hc h];rfl
def aQ(h:fs ac=some xs)(q:F' (xs++dds)=r):aL F' dds fs ac=r:=by unfold aL;rw[h];exact q
def qO(h:fs ac=some xs)(q:F' xs=r):sB1 F' fs ac=r:=by unfold sB1;rw[h];exact q
def cU(h:fs ac=some xs)(q:F' xs=r):fB1 F' fs ac=r:=by unfold fB1;rw[h];exact q
def aM(h:f ac=some d)(q:fs ac=some ds):aA f fs ac=some (d::ds):=by unfold aA;rw[h,q]
def ZdZ(a:0<=j)(h1:j<=1000):nB [.int j]=some ((List.range j.toNat).map λ(k:Nat)=>.int (0+(k:Int))):=by
 simp only[nB];rw[if_pos (by omega)]
def R7{n:Nat}(h1:n<=1000):nB [.int (n:Int)]=some ((List.range n).map λ(k:Nat)=>.int (k:Int)):=by
 rw[ZdZ (by omega) (by omega),Int.toNat_natCast];congr 1;apply Qbs;intro a _;congr 1;omega
def Z2D{l:Ab α}(h:l[i]?=some x):l.take (i+1)=l.take i++[x]:=by
 obtain⟨hi,e⟩:=Qah.mp h;rw[List.take_succ,h];rfl
def jV{l:Ab α}{i:Nat}(h:(l.map f)[i]?=some y):∃x,l[i]?=some x/\y=f x:=by
 rw[Qax]at h;cases e:l[i]? with
 |none=>rw[e]at h;cases h
 |some x=>rw[e]at h;cases h;exact⟨x,rfl,rfl⟩
def lZ{y:D}(h:((List.range n).map f)[i]?=some y):i<n/\y=f i:=by
 obtain⟨x,h1,rfl⟩:=jV h;rw[List.getElem?_range]at h1
 .cases h1;have hi:i<n:=by
   by_cases z:i<n
   .exact z
   .rw[QaH (by simp;omega)]at h;cases h
  exact⟨hi,rfl⟩
 .by_cases z:i<n
  .exact z
  .rw[QaH (by simp;omega)]at h;cases h
def Z8P(n:Nat):(0:Int)<1*2^n:=by rw[Int.one_mul];exact Int.pow_pos (by decide)
def Z0g(n:Nat):(2^n).log2=n:=by
 rw[Nat.log2_eq_iff (Qbu (Nat.two_pow_pos n))];exact⟨Qap _,Nat.pow_lt_pow_right (by decide) (Nat.lt_succ_self n)⟩
def Z8f(h:n<9000):W7 i (1*2^n):=by
 refine⟨Z8P n,?_⟩;rw[Int.one_mul,Int.natAbs_pow];show(2^n).log2<9000;rw[Z0g];exact h
def Wp(r:Res)(Q:Res->Prop):Prop:=Q r
def Rt(P:D->Prop):Res->Prop:=λr=>∃d,r=.ret d/\P d
section
variable {Q:Res->Prop}{ac:En}{k g h:En->Res}{f:En->Aa D}{c:En->Aa Bool}{i:Nat}{d:D}{P:D->Prop}
def E4(w:Wp (g (eU L ds)) (Rt P)):∃d,cA L g ds=some d/\P d:=by
 obtain⟨d,e,p⟩:=w;exact⟨d,iC e,p⟩
def gW(e:f ac=some d)(q:Wp (k (ac.set i (some (true,d)))) Q):Wp (aJ (bJ i f) k ac) Q:=by unfold aJ bJ;rw[e];exact q
def gX(e:c ac=some true)(q:Wp (aJ g k ac) Q):Wp (aJ (rIf c g h) k ac) Q:=by unfold aJ rIf at *;rw[e];exact q
def ZaC(e:c ac=some true)(q:Wp (g ac) Q):Wp (rIf c g h ac) Q:=by unfold rIf at *;rw[e];exact q
def ZaD(e:c ac=some false)(q:Wp (h ac) Q):Wp (rIf c g h ac) Q:=by unfold rIf at *;rw[e];exact q
def wNo(e:c ac=some false)(q:Wp (k ac) Q):Wp (aJ (rIf c g aX) k ac) Q:=by unfold aJ rIf;rw[e];exact q
def Z2y(e:f ac=some d)(q:Q (.ret d)):Wp (aZ f ac) Q:=by unfold aZ;rw[e];exact q
def fH(e:f ac=some d)(q:Q (.ret d)):Wp (aJ (aZ f) k ac) Q:=by unfold aJ aZ;rw[e];exact q
def ZcA(q:Wp (g ac) λr=>match r with | .next e=>Wp (k e) Q|r=>Q r):Wp (aJ g k ac) Q:=by
 unfold aJ Wp at *
 cases e:g ac<;>rw[e]at q<;>simpa only [e]using q
def Z3H(h:f ac=some d)(e:ac[i]?=some (some (true,.lst ds)))(a:ds.length<=1000)(q:Q (.next (ac.set i (some (true,.lst (ds++[d])))))):Wp (kD i f ac) Q:=by
 rw[vO h e a];exact q
def ZdM(M:En->Prop)(h1:Wp (g ac) (λr=>∃e,r=.next e/\M e))(h2:∀e,M e->Wp (k e) Q):Wp (aJ g k ac) Q:=by
 obtain⟨e,h3,a⟩:=h1;unfold aJ;rw[h3];exact h2 e a
def Z3G(e:ac[i]?=some (some (true,d)))(q:Q (.ret d)):Wp (lA i ac) Q:=by
 unfold lA;simp only[e];exact q
def qF(w:Wp (g (eU L ds)) (λr=>r=.ret d)):cA L g ds=some d:=iC w
def W8(a:ac[i]?=some (some (true,.lst xs)))(b:f ac=some (.lst ys))(h1:flats xs=true)(h2:xs.length+ys.length<=1000)(q:Wp (k (ac.set j (some (true,.lst (xs++ys))))) Q):Wp (aJ (gE j i f) k ac) Q:=by
 unfold aJ gE;simp only[a,b,h1,h2,and_self,Rk];exact q
def Z6s(a:ac[i]?=some (some (true,.lst xs)))(b:f ac=some (.lst ys))(h1:flats xs=true)(h2:xs.length+ys.length<=1000)(q:Q (.next (ac.set j (some (true,.lst (xs++ys)))))):Wp (gE j i f ac) Q:=by
 unfold gE;simp only[a,b,h1,h2,and_self,Rk];exact q
def Tn(I:En->Prop)(k:En->Res)(Q:Res->Prop):Res->Prop
 | .next e=>I e
 | .cont e=>I e
 | .brk e=>Wp (k e) Q
 | .ret d=>Q (.ret d)
 | .bad=>False
theorem Z4v(I:Nat->En->Prop):∀(ds:Ab D) (n:Nat) (ac:En),(∀i d ac,ds[i]?=some d->I (n+i) ac->∃env1,t d ac=some env1/\Wp (g env1) (Tn (I (n+i+1)) k Q))->I n ac ->
  (∀env',I (n+ds.length) env'->Wp (k env') Q)->Wp (match rP t g ds ac with | .next e=>k e|r=>r) Q
 |[],n,ac,_,h,q=>by simpa[rP]using q ac (by simpa using h)
 |d::ds,n,ac,st,h,q=>by
  obtain⟨env1,h1,h2⟩:=st 0 d ac rfl h;unfold rP;rw[h1];have ih:∀env2,I (n+0+1) env2->Wp (match rP t g ds env2 with | .next e=>k e|r=>r) Q:=λenv2 h4=>Z4v I ds (n+1) env2 (λi d' e hd hI=>by
    have:=st (i+1) d' e (by simpa using hd) (by rwa [show n+(i+1)=n+1+i by omega])
    rwa [show n+(i+1)+1=n+1+i+1 by omega]at this) h4 (λe he=>q e (by rwa [Qai,show n+(ds.length+1)=n+1+ds.length by omega]))
  unfold Wp at h2;cases e1:g env1 with
  |next e=>rw[e1]at h2;simp only[e1];exact ih e h2
  |cont e=>rw[e1]at h2;simp only[e1];exact ih e h2
  |brk e=>rw[e1]at h2;simp only[e1];exact h2
  |ret d'=>rw[e1]at h2;simp only[e1];exact h2
  |bad=>rw[e1]at h2;exact h2.elim
def ZcB(hs:src ac=some ds)(I:Nat->En->Prop)(b:I 0 (fz rs ac))
  (st:∀i d ac,ds[i]?=some d->I i ac->∃env1,t d ac=some env1/\Wp (g env1) (Tn (I (i+1)) k Q))
  (a:∀env',I ds.length env'->Wp (k env') Q):Wp (aJ (eZ rs src t g) k ac) Q:=by
 unfold aJ eZ;rw[hs];exact Z4v I ds 0 _ (λi d e hd hI=>by rw[Qbo]at *;exact st i d e hd hI) b (λe he=>a e (by rwa [Qbo]at he))
def Q6(hs:src ac=some ds)(I:Nat->En->Prop)(b:I 0 (fz rs ac))
  (st:∀i d ac (R:Res->Prop),ds[i]?=some d->I i ac->(∀e,I (i+1) e->R (.next e))->∃env1,t d ac=some env1/\Wp (g env1) R)
  (a:∀env',I ds.length env'->Wp (k env') Q):Wp (aJ (eZ rs src t g) k ac) Q :=
 ZcB hs I b (λi d e hd hI=>st i d e _ hd hI λ_ z=>z) a
end
end PD
namespace G
open PySem PySem.Spec PyProof.Rows L2 PD
inductive Kd where|and|or|xor deriving DecidableEq
def Kd.s:Kd->Str | .and => "and" | .or => "or" | .xor => "xor"
inductive Row where|fix (b:Int)|not (a:Int)|bin (k:Kd) (a b:Int)
def Row.d:Row->D
 | .fix b=>.tup [.str "fix",.int b]
 | .not a=>.tup [.str "not",.int a]
 | .bin k a b=>.tup [.str k.s,.int a,.int b]
def Z0K(C:Af)(ins:Int)(rows:Ab Row)(outs:Ab Int):D:=.obj C ["ins","rows","outs"] [.int ins,.lst (rows.map Row.d),LI outs]
def Z1W(h:fa ac=some (Z0K C ins rows outs)):cZ C "rows" fa ac=some (.lst (rows.map Row.d)):=by
 have h1:(Str.ofString "rows" == Str.ofString "ins")=false:=by decide +kernel
 simp[cZ,h,Z0K,QaB,h1]
def Z4w(h:fa ac=some (Z0K C ins rows outs)):cZ C "ins" fa ac=some (.int ins):=by
 simp[cZ,h,Z0K,QaB]
def Z1X(h:fa ac=some (Z0K C ins rows outs)):cZ C "outs" fa ac=some (LI outs):=by
 have h1:(Str.ofString "outs" == Str.ofString "ins")=false:=by decide +kernel
 have h2:(Str.ofString "outs" == Str.ofString "rows")=false:=by decide +kernel
 simp[cZ,h,Z0K,QaB,h1,h2]
def Z3r(h:ac[i]?=some (some (true,d)))(a:gB r ac=some ds):gB (.inl i::r) ac=some (d::ds):=by unfold gB;rw[h,a]
def M2(h:f ac=some d)(a:gB r ac=some ds):gB (.inr f::r) ac=some (d::ds):=by unfold gB;rw[h,a]
def Z6W(h:gB is ac=some ds)(a:ds.length<=1000):Z1m is ac=.ret (.tup ds):=by unfold Z1m;rw[h];simp only[a,Rk]
end G
namespace PD
open PySem PySem.Spec PyProof.Rows L2
def EnvS.drop{K:Frag}{P H:Hp}{σ:L2.St}{ac:En}{F:Nat->Ab Af}(j:Nat)(hF:EnvS K P H σ ac F):EnvS K P H σ (ac.set j none) F:=by
 have a:∀{k:Nat}{s:Bool×D},(ac.set j none)[k]?=some (some s)->ac[k]?=some (some s):=λ{k s} e=>by
  by_cases b:j=k
  .subst b;by_cases h:j<ac.length
   .rw[QaC h]at e;cases e
   .rw[QaH (by simp;omega)]at e;cases e
  .rwa [Qao b]at e
 refine⟨λk o d e=>hF.ok k o d (a e),λk d e=>?_⟩;obtain⟨p,i,f,n⟩:=hF.own k d (a e);exact⟨p,i,f,λl s hl es=>n l s hl (a es)⟩
theorem SInv.drop{K:Frag}{P H:Hp}{σ:L2.St}{ac:En}(j:Nat)(h:SInv K P H σ ac):SInv K P H σ (ac.set j none) :=
 ⟨h.same,by rw[List.length_set];exact h.len,h.ex.imp λ_ hF=>hF.drop j⟩
def SInv.put{K:Frag}{P H:Hp}{σ:L2.St}{ac:En}(j:Nat)(x:Aa V)(h:SInv K P H σ ac)(f:ac[j]?=some none):SInv K P H (σ.set j x) ac:=by
 obtain⟨F,hF⟩:=h.ex;have a:∀{k:Nat}{s:Bool×D},ac[k]?=some (some s)->j≠k:=λe z=>by rw[z,e]at f;cases f
 refine⟨h.same,by rw[List.length_set];exact h.len,F,λk o d e=>?_,λk d e=>?_⟩
 .obtain⟨v,b,r⟩:=hF.ok k o d e;exact⟨v,by rw[Qao (a e)];exact b,r⟩
 .obtain⟨n,p,i,l⟩:=hF.own k d e;exact⟨n,p,λv b=>i v (by rwa [Qao (a e)]at b),l⟩
open Classical in
def Z6T{K:Frag}{H:Hp}{ds:Ab D}{vs:Ab V}{fp:Ab Af}(h:Reps K m H ds vs fp):Reps K false H ds vs fp:=by
 cases m
 .exact h
 .exact Reps.weak _ _ _ h
def Zad(fa:En->Aa D)(fl fh:En->Aa (Aa Int)):En->Aa D:=λac=>match fa ac,fl ac,fh ac with
 |some (.lst ds),some l,some h=>some (.lst (cutD ds l h))
 |_,_,_=>none
def ZbG{lo hi:Aa Ag}{fl fh:En->Aa (Aa Int)}{p2:Pos}(n:QE X m1 rs a fa)(t:QO X lo fl)(r:QO X hi fh):QE X false rs (.Subscript a (.Slice lo hi none p2) ai) (Zad fa fl fh) :=
 .mk (L2.pe_slice (SlR.or Z3M Z6E) n t r) λσ H Q ⟨ac,F,d,ok,e,q⟩=>by
  unfold Zad at e;split at e
  .rename_i ds l h h1 h2 h3;cases e;refine⟨ac,F,_,ok,h1,λv H1 f1 s1 r1 c1=>⟨ac,F,l,ok.same s1,h2,λH2 s2=>⟨ac,F,h,ok.same (s1.trans s2),h3,λH3 s3=>.inl ?_⟩⟩⟩;obtain⟨p,vs,fp',rfl,i,u,f⟩:=cB (r1.same (s2.trans s3));refine⟨p,vs,rfl,i,λp' hp=>?_⟩;obtain⟨f',j,o⟩:=Reps.cut (Z6T u) l h;exact q _ _ (p'::f') (((s1.trans s2).trans s3).trans (bV hp)) (mP hp j) (mZ ((s1.trans s2).trans s3) hp j ⟨λb hb=>c1.1 b (f b (o b hb)),λz=>(by cases z)⟩)
  .cases e
mutual
theorem Rep.keepF{K:Frag}{st:Bool}{H H':Hp}(ht:∀a xs,SqT K H a xs->SqT K H' a xs):∀(d:D) (v:V) (fp:Ab Af),flat d=true->Rep K st H d v fp->Rep K st H' d v fp
 | .non,v,fp,_,h=>by simpa only [Rep]using h
 | .bl _,v,fp,_,h=>by simpa only [Rep]using h
 | .int _,v,fp,_,h=>by simpa only [Rep]using h
 | .str _,v,fp,_,h=>by simpa only [Rep]using h
 | .tup ds,v,fp,f,h=>by
  simp only[Rep]at h ⊢;obtain⟨a,vs,e,hs,hr⟩:=h;exact⟨a,vs,e,ht _ _ hs,Reps.keepF ht ds vs fp (by simpa only [PD.flat]using f) hr⟩
 | .lst _,v,fp,f,h=>by simp only[PD.flat]at f;cases f
 | .obj _ _ _,v,fp,f,h=>by simp only[PD.flat]at f;cases f
 | .dk _ _,v,fp,f,h=>by simp only[PD.flat]at f;cases f
 | .exc _,v,fp,f,h=>by simp only[PD.flat]at f;cases f
 | .fn _ _ _,v,fp,f,h=>by simp only[PD.flat]at f;cases f
theorem Reps.keepF{K:Frag}{st:Bool}{H H':Hp}(ht:∀a xs,SqT K H a xs->SqT K H' a xs):∀(ds:Ab D) (vs:Ab V) (fp:Ab Af),flats ds=true->Reps K st H ds vs fp->Reps K st H' ds vs fp
 |[],vs,fp,_,h=>by simpa only [Reps]using h
 |d::ds,vs,fp,f,h=>by
  simp only[Reps]at h ⊢;simp only[flats,Qak]at f;obtain⟨v,r,f1,f2,e1,e2,h1,h2⟩:=h;exact⟨v,r,f1,f2,e1,e2,Rep.keepF ht d v f1 f.1 h1,Reps.keepF ht ds r f2 f.2 h2⟩
end
def vD:V->D
 | .int i=>.int i
 |_=>.non
def Z27(kis:Ab (Key×Int)):Ab (Key×V):=uR [] (kis.map λp=>(p.1,V.int p.2))
def Z4B(fp:En->Aa (Ab (Key×Int))):En->Aa D:=λac=>match fp ac with
 |some kis=>if kis.length<=15 then some (.dk ((Z27 kis).map (·.1)) ((Z27 kis).map λp=>vD p.2)) else none
 |none=>none
def Z1Y(fk fv:En->Aa D)(fr:En->Aa (Ab (Key×Int))):En->Aa (Ab (Key×Int)):=λac=>match fk ac,fv ac,fr ac with
 |some d,some (.int i),some r=>match oP d with
  |some k=>some ((k,i)::r)
  |none=>none
 |_,_,_=>none
def Z3q:En->Aa (Ab (Key×Int)):=λ_=>some []
def Z5n:∀{kvs:Ab (Key×V)}{k:Key}{i:Int},(∀p∈kvs,∃j,p.2=.int j)->∀p∈tL kvs k (.int i),∃j,p.2=V.int j:=by
 intro kvs k i h p hp;unfold tL at hp;split at hp
 .obtain⟨q,hq,rfl⟩:=Qa1.mp hp;split
  .exact⟨i,rfl⟩
  .exact h q hq
 .rcases Qaf.mp hp with z|z
  .exact h p z
  .rw[Qaq.mp z];exact⟨i,rfl⟩
theorem J7:∀(a:Ab (Key×Int)) {kvs:Ab (Key×V)},(∀p∈kvs,∃j,p.2=.int j)->∀p∈uR kvs (a.map λp=>(p.1,V.int p.2)),∃j,p.2=V.int j
 |[],kvs,h,p,hp=>h p hp
 |q::r,kvs,h,p,hp=>J7 r (kvs:=tL kvs q.1 (.int q.2)) (Z5n h) p hp
theorem Q5:∀(l:Ab (Key×V)),(l.map (·.1)).zip (l.map (·.2))=l
 |[]=>rfl
 |p::r=>by rw[Qan,Qan,Qba,Q5 r]
theorem Z3S{K:Frag}{st:Bool}{H:Hp}:∀(l:Ab (Key×V)),(∀p∈l,∃j,p.2=.int j)->Reps K st H (l.map λp=>vD p.2) (l.map (·.2)) []
 |[],_=>by simp only[Qa5,Reps];exact⟨trivial,trivial⟩
 |p::r,h=>by
  obtain⟨j,a⟩:=h p Qag;simp only[Qan,Reps];exact⟨p.2,_,[],[],rfl,rfl,by rw[a];exact eY,Z3S r λq hq=>h q (Qaa _ hq)⟩
section
variable {X:Cx}{m1 m2:Bool}{rs1 rs2:Ab Nat}{k v:Ag}{fk fv:En->Aa D}{ai:Pos}{ks:Ab (Aa Ag)}{vs:Ab Ag}{fp fr:En->Aa (Ab (Key×Int))}
def QPs(X:Cx)(ai:Pos)(keys:Ab (Aa Ag))(values:Ab Ag)(fp:En->Aa (Ab (Key×Int))):Prop :=
 ∃trs,PPs X ai keys values trs/\∀σ H Q ac F kis,EnvOk X.K H σ ac F->fp ac=some kis->(∀H',Same H H'->Q (kis.map λp=>(kV p.1,V.int p.2)) H')->X2 trs σ H Q
def Z9h:QPs X ai [] [] Z3q:=⟨[],Z9w,λσ H Q ac F kis ok e q=>by cases e;exact q H (Same.refl H)⟩
def Z1s(b:QE X m1 rs1 k fk)(f:QE X m2 rs2 v fv)(l:QPs X ai ks vs fr):QPs X ai (some k::ks) (v::vs) (Z1Y fk fv fr):=by
 obtain⟨p,hp,o⟩:=l;refine⟨_,Z7h b f hp,λσ H Q ac F kis ok e q=>?_⟩;unfold Z1Y at e;split at e
 .rename_i d i r h j n;split at e
  .rename_i kk a;cases e;refine⟨ac,F,d,ok,h,λx H1 fp1 s1 r1 c1=>?_⟩;rw[oO a r1];refine⟨ac,F,.int i,ok.same s1,j,λy H2 fp2 s2 r2 c2=>?_⟩;rw[bS r2];exact o σ H2 _ ac F r ((ok.same s1).same s2) n λH3 s3=>q H3 ((s1.trans s2).trans s3)
  .cases e
 .cases e
def Z9p(h:QPs X ai ks vs fp)(j:ks.all (·.isSome)=true:=by rfl)(u:ks.length=vs.length:=by rfl)(w:ks≠[]:=by simp)(n:ks.length<=15:=by simp):QE X true [] (.Dict ks vs ai) (Z4B fp):=by
 obtain⟨x,hp,v⟩:=h;refine .mk (Z9E hp j u w n) λσ H Q ⟨ac,F,d,ok,e,q⟩=>?_;unfold Z4B at e;split at e
 .rename_i a t;split at e
  .rename_i l;cases e;intro p f;refine v σ _ _ ac F a (ok.same (bV f)) t λH2 s2=>⟨s2 _ _ bC,a.map (λp=>(p.1,V.int p.2)),by rw[Qbc];rfl,by rw[Qad];exact l,?_⟩;have r:Same H (upd H2 p (.dK (Z27 a))):=λb o hb=>by
    have i:b≠p:=bL hb f;rw[aY i];exact s2 _ _ (by rw[aY i];exact hb)
   refine q _ _ [p] r ?_ ⟨λb hb=>.inl ?_,λ_=>⟨by simp,λb hb=>?_⟩⟩
   .simp only[Rep];refine⟨p,(Z27 a).map (·.2),[],rfl,rfl,?_,by rw[Qad,Qad],Z3S _ (J7 a λ_ z=>by cases z)⟩;rw[Q5];exact bC
   .rw[Qaq.mp hb];exact f
   .rw[Qaq.mp hb];exact f
  .cases e
 .cases e
end
end PD
namespace L2
open PySem PySem.Spec PyProof.Rows
end L2
namespace PD
open PySem PySem.Spec PyProof.Rows L2
open Classical in
def Hid(H:Hp)(D:Ab Af):Hp:=λb=>if b∈D then none else H b
def Unh(H H1:Hp)(D:Ab Af):Hp:=λb=>if b∈D then H b else H1 b
def rG{H:Hp}{D:Ab Af}{b:Af}(h:b∈D):Hid H D b=none:=if_pos h
def bW{H:Hp}{D:Ab Af}{b:Af}(h:b∉D):Hid H D b=H b:=if_neg h
def Z2z{H H1:Hp}{D:Ab Af}{b:Af}(h:b∈D):Unh H H1 D b=H b:=if_pos h
def nD{H H1:Hp}{D:Ab Af}{b:Af}(h:b∉D):Unh H H1 D b=H1 b:=if_neg h
def gU{H:Hp}{D:Ab Af}{b:Af}{o:HO}(h:Hid H D b=some o):b∉D/\H b=some o:=by
 unfold Hid at h;split at h
 .cases h
 .exact⟨‹_›,h⟩
structure Hd(H:Hp)(D:List Addr):Prop where
 kind:∀b∈D,(∃xs,H b=some (.lst xs))\/(∃C dx fs,H b=some (.ins C dx fs)/\dx∈D)\/∃x C fs,H x=some (.ins C b fs)/\H b=some (.own x)/\x∈D
def Hd.ex{H:Hp}{D:Ab Af}(h:Hd H D){b:Af}(a:b∈D):∃u,H b=some u/\(∀xs,u ≠ .tup xs)/\(∀o v,u ≠ .frz o v)/\∀ps,u ≠ .tbl ps:=by
 rcases h.kind b a with⟨xs,e⟩|⟨C,dx,fs,e,_⟩|⟨x,C,fs,_,e,_⟩<;>exact⟨_,e,by simp,by simp,by simp⟩
theorem Hd.tup{H:Hp}{D:Ab Af}(h:Hd H D){b:Af}{xs:Ab V}(e:H b=some (.tup xs)):b∉D:=λf=>by
 obtain⟨u,a,n,_⟩:=h.ex f;rw[e]at a;cases a;exact n _ rfl
theorem Hd.frz{H:Hp}{D:Ab Af}(h:Hd H D){b:Af}{o:Obj}{u:HO}(e:H b=some (.frz o u)):b∉D:=λf=>by
 obtain⟨u,a,_,n,_⟩:=h.ex f;rw[e]at a;cases a;exact n _ _ rfl
theorem Hd.tbl{H:Hp}{D:Ab Af}(h:Hd H D){b:Af}{ps:Ae (Pos×Str)}(e:H b=some (.tbl ps)):b∉D:=λf=>by
 obtain⟨u,a,_,_,n⟩:=h.ex f;rw[e]at a;cases a;exact n _ rfl
section
variable {X:Cx}{aa os:Ab (Af×Obj)}{σ:L2.St}{H H1:Hp}{s s1:Ac}{D:Ab Af}
theorem Z4g{h:Ah}:∀(D:Ab Af),(∀b∈D,∃o,h.get? b=some o/\∀v,o.data ≠ .cell v)->∃os:Ab (Af×Obj),(∀b∈D,∃o,(b,o)∈os)/\∀p∈os,p.1∈D/\h.get? p.1=some p.2/\∀v,p.2.data ≠ .cell v
 |[],_=>⟨[],λb hb=>(by cases hb),λp hp=>(by cases hp)⟩
 |b::D,hD=>by
  obtain⟨os,h1,h2⟩:=Z4g D λc hc=>hD c (Qaa _ hc);obtain⟨o,a,hc⟩:=hD b Qag;refine⟨(b,o)::os,λc hc'=>?_,λp hp=>?_⟩
  .rcases Qab.mp hc' with rfl|z
   .exact⟨o,Qag⟩
   .obtain⟨o',h'⟩:=h1 c z;exact⟨o',Qaa _ h'⟩
  .rcases Qab.mp hp with rfl|z
   .exact⟨Qag,a,hc⟩
   .exact⟨Qaa _ (h2 p z).1,(h2 p z).2⟩
def Z7M(I:Inv X aa σ H s)(a:Hd H D):∃os:Ab (Af×Obj),(∀b∈D,∃o,(b,o)∈os)/\(∀p∈os,p.1∈D/\s.heap.get? p.1=some p.2)/\Inv X (aa++os) σ (Hid H D) s:=by
 have h:∀b∈D,∃o,s.heap.get? b=some o/\∀v,o.data ≠ .cell v:=λb f=>by
  rcases a.kind b f with⟨xs,e⟩|⟨C,dx,fs,e,_⟩|⟨x,C,fs,e,_,_⟩
  .obtain⟨_,ak,n,_,g⟩:=(show ObjOk X.prog X.w H s.heap b (.lst xs) from I.hok b _ e)
   exact⟨_,g,by simp⟩
  .obtain⟨_,_,_,g,_⟩:=(show ObjOk X.prog X.w H s.heap b (.ins C dx fs) from I.hok b _ e)
   exact⟨_,g,by simp[PySem.W.instObj]⟩
  .obtain⟨_,_,_,_,mA,⟨o,es,ep,g,J,_⟩,_⟩:=(show ObjOk X.prog X.w H s.heap x (.ins C b fs) from I.hok x _ e)
   exact⟨o,g,by rw[J];simp⟩
 obtain⟨os,h1,h2⟩:=Z4g D h;have L:∀b∈D,b∉X.fs:=λb f hf=>by
  obtain⟨_,o,G,_⟩:=I.ok.funs.mem hf;have:=I.base.free b o G (I.ok.frf b hf) λz=>I.ok.exfs b z hf;obtain⟨u,e,_⟩:=a.ex f;rw[this]at e;cases e
 have K:∀b∈D,b≠X.env.locals:=λb f z=>by
  obtain⟨u,e,_⟩:=a.ex f;rw[z,I.free]at e;cases e
 have none_of:∀{b:Af},H b=none->Hid H D b=none:=λ{b} e=>by unfold Hid;split<;>first|rfl|exact e
 refine⟨os,h1,λp hp=>⟨(h2 p hp).1,(h2 p hp).2.1⟩,I.ok,I.os,I.bare,⟨I.base.keep,I.base.slot,λb o e n B=>none_of (I.base.free b o e n B),I.base.there,λb xs e=>?_,λb o u e=>?_,λb ps e=>?_⟩,I.loc,I.cell,none_of I.free,λx c e=>none_of (I.freeC x c e),λp hp=>?_,λb u e=>?_,I.len⟩
 .have:=I.base.tups b xs e;rw[bW (a.tup this)];exact this
 .have:=I.base.frzs b o u e;rw[bW (a.frz this)];exact this
 .obtain⟨more,this⟩:=I.base.tbls b ps e;exact⟨more,by rw[bW (a.tbl this)];exact this⟩
 .rcases Qaf.mp hp with z|z
  .obtain⟨i,t,l,A,y⟩:=I.pin p (Qar _ z);exact⟨i,none_of t,l,A,y⟩
  .rcases Qaf.mp z with z|z
   .obtain⟨i,t,l,A,y⟩:=I.pin p (Qae _ z);exact⟨i,none_of t,l,A,y⟩
   .obtain⟨i,t,l⟩:=h2 p z;exact⟨t,rG i,K _ i,L _ i,l⟩
 .obtain⟨f,e⟩:=gU e;refine(I.hok b u e).stay (λ_ _ _ q=>q) (λb' q=>?_) (λb' xs q=>by rw[bW (a.tup q)];exact q) (λb' o q r=>by rw[bW (a.frz r)];exact r);have:b'∉D:=λF=>by
   rcases a.kind b' F with⟨xs,j⟩|⟨C,dx,fs,j,_⟩|⟨x,C,fs,j,E,B⟩
   .rw[q]at j;cases j
   .rw[q]at j;cases j
   .rw[q]at E;cases E;exact f B
  rw[bW this];exact q
def Z7L{l:L2.St}(j:Inv X aa l H s)(G:Hd H D)(h1:∀b∈D,∃o,(b,o)∈os)(h2:∀p∈os,p.1∈D/\s.heap.get? p.1=some p.2)(I:Inv X (aa++os) σ H1 s1)
  (Y:∀b xs,H b=some (.tup xs)->H1 b=some (.tup xs)) (Z:∀b o u,H b=some (.frz o u)->H1 b=some (.frz o u)) (Q:∀b∈D,X.s₀.heap.get? b=none\/X.H₀ b≠none\/b∈X.ex):Inv X aa σ (Unh H H1 D) s1:=by
 have kept:∀b∈D,∀o,s.heap.get? b=some o->s1.heap.get? b=some o:=λb a o e=>by
  obtain⟨o',h⟩:=h1 b a;have i:s.heap.get? b=some o':=(h2 _ h).2;rw[e]at i;cases i;exact(I.pin (b,o) (Qae _ (Qae _ h))).1
 have out:∀{b:Af}{u:HO},H1 b=some u->b∉D:=λ{b u} e a=>by
  obtain⟨o',h⟩:=h1 b a;have:=(I.pin (b,o') (Qae _ (Qae _ h))).2.1;rw[show H1 b=none from this]at e;cases e
 have N:∀b∈D,b≠X.env.locals:=λb a=>by
  obtain⟨o',h⟩:=h1 b a;exact(I.pin (b,o') (Qae _ (Qae _ h))).2.2.1
 have f:∀{b:Af}{u:HO},H1 b=some u->Unh H H1 D b=some u:=λe=>by rw[nD (out e)];exact e
 have y:∀x c,X.env.cells.lookup x=some c->c∉D:=λx c e hc=>by
  obtain⟨o',h⟩:=h1 c hc;obtain⟨T,_,_,_,S⟩:=I.pin (c,o') (Qae _ (Qae _ h));obtain⟨v,W,t,U⟩:=I.cell x c e;rw[T]at t;cases t;exact S v U
 refine⟨I.ok,I.os,I.bare,⟨I.base.keep,I.base.slot,λb o e n B=>?_,I.base.there,λb xs e=>f (I.base.tups b xs e),λb o u e=>f (I.base.frzs b o u e),λb ps e=>?_⟩,I.loc,I.cell,?_,λx c e=>?_,λp hp=>?_,λb u e=>?_,I.len⟩
 .have:b∉D:=λa=>by
   rcases Q b a with z|z|z
   .rw[e]at z;cases z
   .exact z n
   .exact B z
  rw[nD this];exact I.base.free b o e n B
 .obtain⟨more,this⟩:=I.base.tbls b ps e;exact⟨more,f this⟩
 .rw[nD (λz=>N _ z rfl)];exact I.free
 .rw[nD (y x c e)];exact I.freeC x c e
 .have E:p∈X.pn++(aa++os):=by
   rcases Qaf.mp hp with z|z
   .exact Qar _ z
   .exact Qae _ (Qar _ z)
  obtain⟨R,P,K,M,L⟩:=I.pin p E;refine⟨R,?_,K,M,L⟩;have a:p.1∉D:=λa=>by
   obtain⟨u,e,_⟩:=G.ex a;rw[(j.pin p hp).2.1]at e;cases e
  rw[nD a];exact P
 .by_cases a:b∈D
  .rw[Z2z a]at e;rcases G.kind b a with⟨xs,i⟩|⟨C,dx,fs,i,A⟩|⟨x,C,fs,i,F,B⟩
   .rw[i]at e;cases e;obtain⟨z,ak,n,r,g⟩:=(show ObjOk X.prog X.w H s.heap b (.lst xs) from j.hok b _ i)
    exact⟨z,ak,n,r,kept b a _ g⟩
   .rw[i]at e;cases e;obtain⟨d,z,J,g,mA,⟨O,es,ep,t,c⟩,r⟩:=(show ObjOk X.prog X.w H s.heap b (.ins C dx fs) from j.hok b _ i)
    exact⟨by rw[Z2z A];exact d,z,J,kept b a _ g,mA,⟨O,es,ep,kept dx A _ t,c⟩,r⟩
   .rw[F]at e;cases e;obtain⟨o,g⟩:=(show ObjOk X.prog X.w H s.heap b (.own x) from j.hok b _ F)
    exact⟨o,kept b a _ g⟩
  .rw[nD a]at e;exact(I.hok b u e).stay (λ_ _ _ q=>q) (λb' q=>f q) (λb' xs q=>f q) (λb' o q r=>f r)
end
def Z8s(H:Hp)(b:Af):Prop:=(∀xs,H b≠some (.tup xs))/\∀o u,H b≠some (.frz o u)
def vX(e:H b=some o)(h1:∀xs,o ≠ .tup xs)(h2:∀x u,o ≠ .frz x u):Z8s H b :=
 ⟨λxs z=>by rw[e]at z;cases z;exact h1 _ rfl,λx u z=>by rw[e]at z;cases z;exact h2 _ _ rfl⟩
mutual
theorem Z3{K:Frag}{H:Hp}:∀(d:D) (v:V) (fp:Ab Af),Rep K true H d v fp->∀b∈fp,Z8s H b
 | .non,v,fp,h,b,hb=>by simp only[Rep]at h;rw[h.2]at hb;cases hb
 | .bl _,v,fp,h,b,hb=>by simp only[Rep]at h;rw[h.2]at hb;cases hb
 | .int _,v,fp,h,b,hb=>by simp only[Rep]at h;rw[h.2]at hb;cases hb
 | .str _,v,fp,h,b,hb=>by simp only[Rep]at h;rw[h.2]at hb;cases hb
 | .tup ds,v,fp,h,b,hb=>by
  simp only[Rep]at h;obtain⟨a,vs,e,hs,hr⟩:=h;exact reps_ntf ds vs fp hr b hb
 | .lst ds,v,fp,h,b,hb=>by
  simp only[Rep]at h;obtain⟨a,vs,fp',e,hr,hs⟩:=h;rcases hs with⟨rfl,hs⟩|⟨z,_⟩
  .rcases Qab.mp hb with rfl|hb
   .exact vX hs (by simp) (by simp)
   .exact reps_ntf ds vs fp' hr b hb
  .cases z
 | .obj C ns ds,v,fp,h,b,hb=>by
  simp only[Rep]at h;obtain⟨a,dx,vs,fp',e,rfl,hs,hd,hl,hr⟩:=h;rcases Qab.mp hb with rfl|hb
  .exact vX hs (by simp) (by simp)
  rcases Qab.mp hb with rfl|hb
  .exact vX hd (by simp) (by simp)
  .exact reps_ntf ds vs fp' hr b hb
 | .dk ks ds,v,fp,h,b,hb=>by
  simp only[Rep]at h;obtain⟨a,vs,fp',e,rfl,hs,hl,hr⟩:=h;rcases Qab.mp hb with rfl|hb
  .exact vX hs (by simp) (by simp)
  .exact reps_ntf ds vs fp' hr b hb
 | .exc C,v,fp,h,b,hb=>by
  simp only[Rep]at h;obtain⟨a,e,rfl,hs⟩:=h;rw[Qaq.mp hb];exact vX hs (by simp) (by simp)
 | .fn a vs ds,v,fp,h,b,hb=>by
  simp only[Rep]at h;exact reps_ntf ds vs fp h.2 b hb
theorem reps_ntf{K:Frag}{H:Hp}:∀(ds:Ab D) (vs:Ab V) (fp:Ab Af),Reps K true H ds vs fp->∀b∈fp,Z8s H b
 |[],vs,fp,h,b,hb=>by simp only[Reps]at h;rw[h.2]at hb;cases hb
 |d::ds,vs,fp,h,b,hb=>by
  simp only[Reps]at h;obtain⟨v,r,f1,f2,e1,rfl,h1,h2⟩:=h;rcases Qaf.mp hb with hb|hb
  .exact Z3 d v f1 h1 b hb
  .exact reps_ntf ds r f2 h2 b hb
end
def pln:D->Bool
 | .non=>true
 | .bl _=>true
 | .int _=>true
 | .str _=>true
 | .tup ds=>plns ds
 | .lst ds=>plns ds
 | .obj _ _ ds=>plns ds
 |_=>false
where plns:Ab D->Bool
 |[]=>true
 |d::ds=>pln d&&plns ds
def KndH(H:Hp)(b:Af)(fp:Ab Af):Prop:=(∃xs,H b=some (.lst xs))\/(∃C dx fs,H b=some (.ins C dx fs)/\dx∈fp)\/∃x C fs,H x=some (.ins C b fs)/\H b=some (.own x)/\x∈fp
def KndH.sub(h:KndH H b fp)(s:∀c∈fp,c∈fp'):KndH H b fp':=by
 rcases h with h|⟨C,dx,fs,e,m⟩|⟨x,C,fs,e,e2,m⟩
 .exact .inl h
 .exact .inr (.inl ⟨C,dx,fs,e,s _ m⟩)
 .exact .inr (.inr ⟨x,C,fs,e,e2,s _ m⟩)
mutual
theorem Z94{K:Frag}{H:Hp}:∀(d:D) (v:V) (fp:Ab Af),pln d=true->Rep K true H d v fp->∀b∈fp,KndH H b fp
 | .non,v,fp,_,h,b,hb=>by simp only[Rep]at h;rw[h.2]at hb;cases hb
 | .bl _,v,fp,_,h,b,hb=>by simp only[Rep]at h;rw[h.2]at hb;cases hb
 | .int _,v,fp,_,h,b,hb=>by simp only[Rep]at h;rw[h.2]at hb;cases hb
 | .str _,v,fp,_,h,b,hb=>by simp only[Rep]at h;rw[h.2]at hb;cases hb
 | .tup ds,v,fp,p,h,b,hb=>by
  simp only[Rep]at h;obtain⟨a,vs,e,hs,hr⟩:=h;exact reps_knd ds vs fp (by simpa only [pln]using p) hr b hb
 | .lst ds,v,fp,p,h,b,hb=>by
  simp only[Rep]at h;obtain⟨a,vs,fp',e,hr,hs⟩:=h;rcases hs with⟨rfl,hs⟩|⟨z,_⟩
  .rcases Qab.mp hb with rfl|hb
   .exact .inl ⟨_,hs⟩
   .exact(reps_knd ds vs fp' (by simpa only [pln]using p) hr b hb).sub λc hc=>Qaa _ hc
  .cases z
 | .obj C ns ds,v,fp,p,h,b,hb=>by
  simp only[Rep]at h;obtain⟨a,dx,vs,fp',e,rfl,hs,hd,hl,hr⟩:=h;rcases Qab.mp hb with rfl|hb
  .exact .inr (.inl ⟨_,_,_,hs,Qaa _ Qag⟩)
  rcases Qab.mp hb with rfl|hb
  .exact .inr (.inr ⟨_,_,_,hs,hd,Qag⟩)
  .exact(reps_knd ds vs fp' (by simpa only [pln]using p) hr b hb).sub λc hc=>Qaa _ (Qaa _ hc)
 | .dk _ _,_,_,p,_,_,_=>by simp[pln]at p
 | .exc _,_,_,p,_,_,_=>by simp[pln]at p
 | .fn _ _ _,_,_,p,_,_,_=>by simp[pln]at p
theorem reps_knd{K:Frag}{H:Hp}:∀(ds:Ab D) (vs:Ab V) (fp:Ab Af),pln.plns ds=true->Reps K true H ds vs fp->∀b∈fp,KndH H b fp
 |[],vs,fp,_,h,b,hb=>by simp only[Reps]at h;rw[h.2]at hb;cases hb
 |d::ds,vs,fp,p,h,b,hb=>by
  simp only[Reps]at h;obtain⟨v,r,f1,f2,e1,rfl,h1,h2⟩:=h;simp only[pln.plns,Qak]at p;rcases Qaf.mp hb with hb|hb
  .exact(Z94 d v f1 p.1 h1 b hb).sub λc hc=>Qar _ hc
  .exact(reps_knd ds r f2 p.2 h2 b hb).sub λc hc=>Qae _ hc
end
structure Hw(K:Frag)(H:Hp)(A:List Addr)(ws:List D)(fp:List Addr):Prop where
 rep:Reps K true H ws (A.map V.ref) fp
 nd:fp.Nodup
 pl:pln.plns ws=true
def Hw.hd{K:Frag}{H:Hp}{A:Ab Af}{ws:Ab D}{fp:Ab Af}(W:Hw K H A ws fp):Hd H fp:=⟨reps_knd _ _ _ W.pl W.rep⟩
def SInvG(K:Frag)(P H:Hp)(σ:L2.St)(ac:En)(A:Ab Af)(ws:Ab D):Prop:=∃fp,Hw K H A ws fp/\SInv K P (Hid H fp) σ ac
def V9(K:Frag)(P:Hp)(A:Ab Af)(E:yP)(r:Res)(ws:Ab D):Prop:=match r with
 | .next ac=>∀σ H,SInvG K P H σ ac A ws->E.nx σ H
 | .ret d=>∀v H fp fw,Hw K H A ws fw->Same P (Hid H fw)->Rep K true (Hid H fw) d v fp->(∀b∈fp,P b=none)->fp.Nodup->E.rt v H
 | .brk ac=>∀σ H,SInvG K P H σ ac A ws->E.bk σ H
 | .cont ac=>∀σ H,SInvG K P H σ ac A ws->E.ct σ H
 | .bad=>False
def Z6w(K:Frag)(A:Ab Af)(g:En->Ab D->Res×Ab D):TS:=λE σ H=>∃P ac ws,SInvG K P H σ ac A ws/\V9 K P A E (g ac ws).1 (g ac ws).2
def QSg(X:Cx)(A:Ab Af)(st:Stmt)(g:En->Ab D->Res×Ab D):Prop:=PS X st (Z6w X.K A g)
def QSsg(X:Cx)(A:Ab Af)(st:Ab Stmt)(g:En->Ab D->Res×Ab D):Prop:=PSs X st (Z6w X.K A g)
section
variable {X:Cx}{A:Ab Af}{st:Stmt}{aa os:Ab (Af×Obj)}{σ σ':L2.St}{P H H1:Hp}{s s1:Ac}{Dl:Ab Af}{ws:Ab D}{ac:En}
def pU(P H:Hp):Hp:=λb=>match H b with
 |some (.tup xs)=>some (.tup xs)
 |some (.frz o u)=>some (.frz o u)
 |_=>P b
def vI:(pU P H b=H b/\((∃xs,H b=some (.tup xs))\/∃o u,H b=some (.frz o u)))\/(pU P H b=P b/\Z8s H b):=by
 unfold pU;cases e:H b with
 |none=>exact .inr ⟨rfl,λ_ z=>(by rw[e]at z;cases z),λ_ _ z=>(by rw[e]at z;cases z)⟩
 |some o=>cases o<;>first|exact .inl ⟨rfl,.inl ⟨_,rfl⟩⟩|exact .inl ⟨rfl,.inr ⟨_,_,rfl⟩⟩|exact .inr ⟨rfl,λ_ z=>(by rw[e]at z;cases z),λ_ _ z=>(by rw[e]at z;cases z)⟩
def Z6e(s:Same P H):Same (pU P H) H:=λb o e=>by
 rcases vI (P:=P) (H:=H) (b:=b)with⟨h,_⟩|⟨h,_⟩
 .rw[h]at e;exact e
 .rw[h]at e;exact s b o e
def Zaw(s:Same P H):Same P (pU P H):=λb o e=>by
 rcases vI (P:=P) (H:=H) (b:=b)with⟨h,_⟩|⟨h,_⟩
 .rw[h];exact s b o e
 .rw[h];exact e
def Z8o(e:H b=some (.tup xs)):pU P H b=some (.tup xs):=by unfold pU;rw[e]
def Z8p(e:H b=some (.frz o u)):pU P H b=some (.frz o u):=by unfold pU;rw[e]
def Z51{K:Frag}(I:SInv K P H σ ac):SInv K (pU P H) H σ ac:=by
 obtain⟨F,hF⟩:=I.ex;refine⟨Z6e I.same,I.len,F,hF.ok,λi d e=>?_⟩;obtain⟨p,l,a,n⟩:=hF.own i d e;refine⟨p,λb hb=>?_,a,n⟩;obtain⟨v,j,_⟩:=hF.ok i true d e;have f:=Z3 _ _ _ (a v j) b hb;rcases vI (P:=P) (H:=H) (b:=b)with⟨_,⟨xs,h⟩|⟨o,u,h⟩⟩|⟨h,_⟩
 .exact absurd h (f.1 xs)
 .exact absurd h (f.2 o u)
 .rw[h];exact l b hb
def Z50{K:Frag}{a:Hp}(I:SInv K a H σ ac)(s:Same P a):SInv K P H σ ac:=by
 obtain⟨F,hF⟩:=I.ex;refine⟨s.trans I.same,I.len,F,hF.ok,λi d e=>?_⟩;obtain⟨l,h,f,j⟩:=hF.own i d e;exact⟨l,λb hb=>s.free (h b hb),f,j⟩
def Za2{K:Frag}(W:Hw K H A ws Dl)(h:∀b∈Dl,H1 b=none)(i:∀b xs,H b=some (.tup xs)->H1 b=some (.tup xs))(j:∀b o u,H b=some (.frz o u)->H1 b=some (.frz o u)):Hw K (Unh H H1 Dl) A ws Dl/\Hid (Unh H H1 Dl) Dl=H1:=by
 have f:∀{b:Af}{u:HO},H1 b=some u->Unh H H1 Dl b=some u:=λ{b u} e=>by
  rw[nD (λz=>by rw[h b z]at e;cases e)];exact e
 refine⟨⟨Reps.keep _ _ _ ⟨λb a o e=>by rw[Z2z a];exact e,λb xs e=>f (i b xs e),λb o u e=>f (j b o u e)⟩ W.rep,W.nd,W.pl⟩,?_⟩;funext b;by_cases a:b∈Dl
 .rw[rG a,h b a]
 .rw[bW a,nD a]
def Z3i(I:Inv X aa σ H s)(h:Hd H Dl):∀b∈Dl,X.s₀.heap.get? b=none\/X.H₀ b≠none\/b∈X.ex:=λb hb=>by
 by_cases a:b∈X.ex
 .exact .inr (.inr a)
 .cases e:X.s₀.heap.get? b with
  |none=>exact .inl rfl
  |some o =>
   refine .inr (.inl λz=>?_);have:=I.base.free b o e z a;obtain⟨u,f,_⟩:=h.ex hb;rw[this]at f;cases f
def ZbD{g:En->Res}(h:QS X st g):QSg X A st (λac ws=>(g ac,ws)):=by
 intro aa s σ H E I ⟨P,ac,ws,⟨Dl,W,IS⟩,q⟩;obtain⟨os,h1,h2,N⟩:=Z7M I W.hd;have n:=Zaw IS.same;have t:∀{H1:Hp},Same (pU P (Hid H Dl)) H1->(∀b xs,H b=some (.tup xs)->H1 b=some (.tup xs))/\∀b o u,H b=some (.frz o u)->H1 b=some (.frz o u):=λ{H1} sm=>⟨λb xs e=>sm _ _ (Z8o (by rw[bW (W.hd.tup e)];exact e)),λb o u e=>sm _ _ (Z8p (by rw[bW (W.hd.frz e)];exact e))⟩;have back:∀{σ':L2.St}{H1:Hp}{s1:Ac},Inv X (aa++os) σ' H1 s1->Same (pU P (Hid H Dl)) H1->Inv X aa σ' (Unh H H1 Dl) s1/\Hw X.K (Unh H H1 Dl) A ws Dl/\Hid (Unh H H1 Dl) Dl=H1:=λ{σ' H1 s1} J sm=>by
  obtain⟨F,L⟩:=t sm;have O:∀b∈Dl,H1 b=none:=λb hb=>by
   obtain⟨o',M⟩:=h1 b hb;exact(J.pin (b,o') (Qae _ (Qae _ M))).2.1
  exact⟨Z7L I W.hd h1 h2 J F L (Z3i I W.hd),Za2 W O F L⟩
 let G:yP:=⟨λσ1 H1=>∃e1,SInv X.K (pU P (Hid H Dl)) H1 σ1 e1/\g ac=Res.next e1,λv H1=>∃d f1,Same (pU P (Hid H Dl)) H1/\Rep X.K true H1 d v f1/\(∀b∈f1,pU P (Hid H Dl) b=none)/\f1.Nodup/\g ac=Res.ret d,
  λσ1 H1=>∃e1,SInv X.K (pU P (Hid H Dl)) H1 σ1 e1/\g ac=Res.brk e1,λσ1 H1=>∃e1,SInv X.K (pU P (Hid H Dl)) H1 σ1 e1/\g ac=Res.cont e1⟩
 have C:Post X.K (pU P (Hid H Dl)) G (g ac):=by
  cases a:g ac with
  |next i=>exact λσ' H1 J=>⟨i,J,a⟩
  |ret d=>exact λv H1 fp' w B x y=>⟨d,fp',w,B,x,y,a⟩
  |brk i=>exact λσ' H1 J=>⟨i,J,a⟩
  |cont i=>exact λσ' H1 J=>⟨i,J,a⟩
  |bad=>simp only[a]at q;exact q
 refine thn (h (aa++os) s σ (Hid H Dl) G N ⟨_,ac,Z51 IS,C⟩) λf s1 hf=>?_;have step:∀{σ':L2.St}{H1:Hp}{i:En},Inv X (aa++os) σ' H1 s1->SInv X.K (pU P (Hid H Dl)) H1 σ' i->Inv X aa σ' (Unh H H1 Dl) s1/\SInvG X.K P (Unh H H1 Dl) σ' i A ws:=λ{σ' H1 i} J S=>by
  obtain⟨l,j,p⟩:=back J S.same;exact⟨l,Dl,j,by rw[p];exact Z50 S n⟩
 cases f with
 |next =>
  obtain⟨σ',H1,J,i,S,a⟩:=hf;obtain⟨l,j⟩:=step J S;simp only[a]at q;exact⟨σ',_,l,q _ _ j⟩
 |brk =>
  obtain⟨σ',H1,J,i,S,a⟩:=hf;obtain⟨l,j⟩:=step J S;simp only[a]at q;exact⟨σ',_,l,q _ _ j⟩
 |cont =>
  obtain⟨σ',H1,J,i,S,a⟩:=hf;obtain⟨l,j⟩:=step J S;simp only[a]at q;exact⟨σ',_,l,q _ _ j⟩
 |ret u =>
  obtain⟨v,σ',H1,J,r,d,fp',w,B,x,y,a⟩:=hf;obtain⟨l,j,p⟩:=back J w;simp only[a]at q;exact⟨v,σ',_,l,r,q v _ fp' Dl j (by rw[p];exact n.trans w) (by rw[p];exact B) (λb hb=>n.free (x b hb)) y⟩
end
section
variable {K:Frag}{P H H':Hp}{σ:L2.St}{ac:En}{F:Nat->Ab Af}{d:D}{v:V}{fp fw:Ab Af}{A:Ab Af}{ws:Ab D}
def Z0V{α:Type}{l:Ab (Aa α)}{x:α}{i:Nat}(e:(l++[none])[i]?=some (some x)):l[i]?=some (some x):=by
 rw[List.getElem?_append]at e;split at e
 .exact e
 .cases h:i-l.length with
  |zero=>rw[h]at e;cases e
  |succ n=>rw[h]at e;cases e
def iS{α:Type}{l:Ab α}{x y:α}{i:Nat}(e:l[i]?=some x):(l++[y])[i]?=some x:=by
 obtain⟨h,_⟩:=Qah.mp e;rw[QaI h];exact e
def mB{α:Type}{l:Ab α}{x:α}{i:Nat}(e:l[i]?=some x):i<l.length:=(Qah.mp e).1
def Z17(h:l.length=n):(l++[x]).set n y=l++[y]:=by subst h;simp
def EnvS.app(n:σ.length=ac.length)(h:EnvS K P H σ ac F):EnvS K P H (σ++[none]) (ac++[none]) F:=by
 refine⟨λi o d e=>?_,λi d e=>?_⟩
 .obtain⟨v,h1,h2⟩:=h.ok i o d (Z0V e);exact⟨v,iS h1,h2⟩
 .obtain⟨l,b,a,f⟩:=h.own i d (Z0V e);exact⟨l,b,λv hv=>a v (Z0V hv),λj s hj ej=>f j s hj (Z0V ej)⟩
def sG(f:Same P H)(a:σ.length=ac.length)(h:EnvS K P H σ ac F)(s:Same H H')(r:Rep K true H' d v fp)(nd:fp.Nodup)(fr:∀b∈fp,H b=none):SInv K P H' (σ++[some v]) (ac++[some (true,d)]):=by
 have:=sD (σ:=σ++[none]) (ac:=ac++[none]) ac.length f (by simp[a]) (h.app a) s r nd fr;rw[Z17 a,Z17 rfl]at this;exact this
def Z16(h:SInv K P H (σ++[x]) (ac++[y])):SInv K P H σ ac:=by
 have a:σ.length=ac.length:=by have:=h.len;simpa using this
 obtain⟨F,hF⟩:=h.ex;refine⟨h.same,a,F,λi o d e=>?_,λi d e=>?_⟩
 .obtain⟨v,h1,h2⟩:=hF.ok i o d (iS e);rw[QaI (by rw[a];exact mB e)]at h1;exact⟨v,h1,h2⟩
 .obtain⟨n,f,b,l⟩:=hF.own i d (iS e);exact⟨n,f,λv hv=>b v (iS hv),λj s hj ej=>l j s hj (iS ej)⟩
def sH(h:SInv K P H (σ++[some v]) (ac++[some (true,d)])):∃fp,Rep K true H d v fp/\fp.Nodup/\∀b∈fp,P b=none:=by
 have f:σ.length=ac.length:=by have:=h.len;simpa using this
 obtain⟨F,hF⟩:=h.ex;have e:(ac++[some (true,d)])[ac.length]?=some (some (true,d)):=by simp
 obtain⟨j,i,a,_⟩:=hF.own _ _ e;exact⟨_,a v (by rw[<- f];simp),j,i⟩
def R5(i:Nat)(h:SInv K P H (σ++[some v]) (ac++[some (true,d)])):SInv K P H (σ.set i (some v)) (ac.set i (some (true,d))):=by
 have l:σ.length=ac.length:=by have:=h.len;simpa using this
 by_cases hi:i<ac.length
 .obtain⟨F,hF⟩:=h.ex;have q:(ac++[some (true,d)])[ac.length]?=some (some (true,d)):=by simp
  have sn:(σ++[some v])[ac.length]?=some (some v):=by rw[<- l];simp
  obtain⟨A,u,p,r⟩:=hF.own _ _ q;refine⟨h.same,by simp[l],Z1T F i (F ac.length),λj o d' e=>?_,λj d' e=>?_⟩
  .rw[cW hi]at e;by_cases a:j=i
   .subst a;rw[if_pos rfl]at e;cases e;exact⟨v,QaC (by omega),by rw[bY];exact Rep.weak _ _ _ (p v sn)⟩
   .rw[if_neg a]at e;obtain⟨w,h1,h2⟩:=hF.ok j o d' (iS e);rw[QaI (by rw[l];exact mB e)]at h1;exact⟨w,by rw[Qao (Ne.symm a)];exact h1,by rw[bE a];exact h2⟩
  .rw[cW hi]at e;by_cases a:j=i
   .subst a;rw[if_pos rfl]at e;cases e;rw[bY];refine⟨A,u,λw hw=>?_,λk s' hk ek b hb=>?_⟩
    .rw[QaC (by omega)]at hw;cases hw;exact p v sn
    .rw[cW hi,if_neg hk]at ek;rw[bE hk];exact r k s' (QaA (mB ek)) (iS ek) b hb
   .rw[if_neg a]at e;obtain⟨x,y,t,n⟩:=hF.own j d' (iS e);rw[bE a];refine⟨x,y,λw hw=>?_,λk s' hk ek b hb=>?_⟩
    .rw[Qao (Ne.symm a)]at hw;exact t w (iS hw)
    .rw[cW hi]at ek;by_cases f:k=i
     .subst f;rw[bY];exact n ac.length _ (Qbu (mB e)) q b hb
     .rw[if_neg f]at ek;rw[bE f];exact n k s' hk (iS ek) b hb
 .rw[QaJ (by omega),QaJ (by omega)];exact Z16 h
def kK(s:Same H H'):Same (Hid H fw) (Hid H' fw):=λb o e=>by
 obtain⟨h1,h2⟩:=gU e;rw[bW h1];exact s _ _ h2
def hid_le:Same (Hid H fw) H:=λb o e=>(gU e).2
def Hd.same(h:Hd H D')(s:Same H H'):Hd H' D':=⟨λb hb=>by
 rcases h.kind b hb with⟨xs,e⟩|⟨C,dx,fs,e,m⟩|⟨x,C,fs,e,a,m⟩
 .exact .inl ⟨xs,s _ _ e⟩
 .exact .inr (.inl ⟨C,dx,fs,s _ _ e,m⟩)
 .exact .inr (.inr ⟨x,C,fs,s _ _ e,s _ _ a,m⟩)⟩
def Z3T{st:Bool}(hd:Hd H fw)(r:Rep K st H d v fp)(a:∀b∈fp,b∉fw):Rep K st (Hid H fw) d v fp :=
 Rep.keep _ _ _ ⟨λb hb o e=>by rw[bW (a b hb)];exact e,λb xs e=>by rw[bW (hd.tup e)];exact e,λb o u e=>by rw[bW (hd.frz e)];exact e⟩ r
theorem Hw.same(W:Hw K H A ws fw)(s:Same H H'):Hw K H' A ws fw:=⟨W.rep.same s,W.nd,W.pl⟩
theorem Hw.dom(W:Hw K H A ws fw):∀b∈fw,∃o,H b=some o:=Reps.dom _ _ _ W.rep
theorem SInvG.grow(I:SInvG K P H σ ac A ws)(s:Same H H'):SInvG K P H' σ ac A ws:=by
 obtain⟨fw,W,a⟩:=I;exact⟨fw,W.same s,a.grow (kK s)⟩
def SInvG.push(I:SInvG K P H σ ac A ws)(s:Same H H')(r:Rep K true H' d v fp)(nd:fp.Nodup)(fr:∀b∈fp,H b=none):SInvG K P H' (σ++[some v]) (ac++[some (true,d)]) A ws:=by
 obtain⟨fw,W,a⟩:=I;obtain⟨F,hF⟩:=a.ex;have f:∀b∈fp,b∉fw:=λb hb z=>by
  obtain⟨o,e⟩:=W.dom b z;rw[fr b hb]at e;cases e
 exact⟨fw,W.same s,sG a.same a.len hF (kK s) (Z3T (W.hd.same s) r f) nd λb hb=>by rw[bW (f b hb)];exact fr b hb⟩
def SInvG.pop(I:SInvG K P H (σ++[x]) (ac++[y]) A ws):SInvG K P H σ ac A ws:=by
 obtain⟨fw,W,a⟩:=I;exact⟨fw,W,Z16 a⟩
def SInvG.move(i:Nat)(I:SInvG K P H (σ++[some v]) (ac++[some (true,d)]) A ws):SInvG K P H (σ.set i (some v)) (ac.set i (some (true,d))) A ws:=by
 obtain⟨fw,W,a⟩:=I;exact⟨fw,W,R5 i a⟩
def SInvG.eok(I:SInvG K P H σ ac A ws):∃F,EnvOk K H σ ac F:=by
 obtain⟨fw,W,a⟩:=I;obtain⟨F,hF⟩:=a.ex;exact⟨F,hF.ok.same hid_le⟩
open Classical in
def opn(a:Af)(w:D)(ac:En):En:=ac.map λs=>match s with
 |some (o,d)=>if d=.fn a [] [] then some (false,w) else some (o,d)
 |none=>none
theorem SInvG.opn(I:SInvG K P H σ ac [a] [w]):∃F,EnvOk K H σ (PD.opn a w ac) F:=by
 classical
 obtain⟨fw,W,j⟩:=I;obtain⟨F,hF⟩:=j.ex;have f:=W.rep;simp only[Qan,Qa5,Reps]at f;obtain⟨l,t,f1,q,h,n,h1,y,x⟩:=f;cases h;refine⟨λi=>if ∃o,ac[i]?=some (some (o,.fn a [] [])) then f1 else F i,λi o d e=>?_⟩;unfold PD.opn at e;rw[Qax]at e;cases hi:ac[i]? with
 |none=>rw[hi]at e;cases e
 |some s =>
  cases s with
  |none=>rw[hi]at e;cases e
  |some p =>
   obtain⟨o',d'⟩:=p;rw[hi]at e;obtain⟨v,b,r⟩:=hF.ok i o' d' hi;simp only[QaK]at e;by_cases hd:d'=.fn a [] []
   .rw[if_pos hd]at e;cases e;subst hd;simp only[Rep]at r;refine⟨v,b,?_⟩;show Rep K false H w v (if ∃o,ac[i]?=some (some (o,D.fn a [] [])) then f1 else F i);rw[if_pos ⟨o',hi⟩,r.1];exact Rep.weak _ _ _ h1
   .rw[if_neg hd]at e;cases e;refine⟨v,b,?_⟩;show Rep K false H d v (if ∃o,ac[i]?=some (some (o,D.fn a [] [])) then f1 else F i);rw[if_neg (λ⟨u,z⟩=>by rw[hi]at z;cases z;exact hd rfl)];exact r.same hid_le
end
def tDg(K:Frag)(A:Ab Af)(f:En->Ab D->Aa (D×Ab D)):TE:=λσ H Q=>∃P ac ws d ws',SInvG K P H σ ac A ws/\f ac ws=some (d,ws')/\∀v H',SInvG K P H' (σ++[some v]) (ac++[some (true,d)]) A ws'->Q v H'
def Z8G(K:Frag)(A:Ab Af)(f:En->Ab D->Aa (Bool×Ab D)):TT:=λσ H Q=>∃P ac ws b ws',SInvG K P H σ ac A ws/\f ac ws=some (b,ws')/\∀H',SInvG K P H' σ ac A ws'->Q b H'
def QEg(X:Cx)(A:Ab Af)(e:Ag)(f:En->Ab D->Aa (D×Ab D)):Prop:=PE X e (tDg X.K A f)
def QTg(X:Cx)(A:Ab Af)(e:Ag)(f:En->Ab D->Aa (Bool×Ab D)):Prop:=PT X e (Z8G X.K A f)
section
variable {X:Cx}{A:Ab Af}{a:Af}{e c:Ag}{st:Stmt}{sts sa sb:Ab Stmt}{f:En->Aa D}{f':En->Ab D->Aa (D×Ab D)}{b:En->Aa Bool}{b':En->Ab D->Aa (Bool×Ab D)}{g h:En->Ab D->Res×Ab D}{ai:Pos}
def QEg.mk(h:PE X e t)(hi:∀σ H Q,tDg X.K A f' σ H Q->t σ H Q):QEg X A e f':=λaa s σ H Q I q=>h aa s σ H Q I (hi σ H Q q)
def QTg.mk(h:PT X e t)(hi:∀σ H Q,Z8G X.K A b' σ H Q->t σ H Q):QTg X A e b':=λaa s σ H Q I q=>h aa s σ H Q I (hi σ H Q q)
def QSg.mk(h:PS X st t)(hi:∀E σ H,Z6w X.K A g E σ H->t E σ H):QSg X A st g:=λaa s σ H E I q=>h aa s σ H E I (hi E σ H q)
def QSsg.mk(h:PSs X sts t)(hi:∀E σ H,Z6w X.K A g E σ H->t E σ H):QSsg X A sts g:=λaa s σ H E I q=>h aa s σ H E I (hi E σ H q)
def gPl(f:En->Aa D):En->Ab D->Aa (D×Ab D):=λac ws=>(f ac).map λd=>(d,ws)
def ZbF(h:QE X true [] e f):QEg X A e (gPl f):=.mk h λσ H Q ⟨P,ac,ws,d,ws',I,e,q⟩=>by
 obtain⟨F,hF⟩:=I.eok;unfold gPl at e;cases a:f ac with
 |none=>rw[a]at e;cases e
 |some d' =>
  rw[a]at e;cases e;exact⟨ac,F,d,hF,a,λv H' fp s r c=>q v H' (I.push s r (c.2 rfl).1 (c.2 rfl).2)⟩
def gOp(a:Af)(f:En->Aa D):En->Ab D->Aa (D×Ab D):=λac ws=>match ws with
 |[w]=>(f (opn a w ac)).map λd=>(d,[w])
 |_=>none
def Z2T(h:QE X true [] e f):QEg X [a] e (gOp a f):=.mk h λσ H Q ⟨P,ac,ws,d,ws',I,e,q⟩=>by
 unfold gOp at e;split at e
 .rename_i w;obtain⟨F,hF⟩:=I.opn;cases b:f (opn a w ac) with
  |none=>rw[b]at e;cases e
  |some d' =>
   rw[b]at e;cases e;exact⟨_,F,d,hF,b,λv H' fp s r c=>q v H' (I.push s r (c.2 rfl).1 (c.2 rfl).2)⟩
 .cases e
def zZ(f:En->Aa Bool):En->Ab D->Aa (Bool×Ab D):=λac ws=>(f ac).map λd=>(d,ws)
def Z2R(h:QT X e b):QTg X A e (zZ b):=.mk h λσ H Q ⟨P,ac,ws,d,ws',I,e,q⟩=>by
 obtain⟨F,hF⟩:=I.eok;unfold zZ at e;cases a:b ac with
 |none=>rw[a]at e;cases e
 |some d' =>
  rw[a]at e;cases e;exact⟨ac,F,d,hF,a,λH' s=>q H' (I.grow s)⟩
def dC(g h:En->Ab D->Res×Ab D):En->Ab D->Res×Ab D:=λac ws=>match g ac ws with
 |(.next env',ws')=>h env' ws'
 |r=>r
def Z1q:QSsg X A [] (λac ws=>(.next ac,ws)):=.mk B2 λE σ H ⟨P,ac,ws,I,q⟩=>q σ H I
def qT(h1:QSg X A st g):QSsg X A [st] g:=.mk (sM h1) λE σ H q=>q
def eO(h1:QSg X A st g)(h2:QSsg X A sts h):QSsg X A (st::sts) (dC g h):=.mk (mK h1 h2) λE σ H ⟨P,ac,ws,I,q⟩=>by
 refine⟨P,ac,ws,I,?_⟩;unfold dC at q;cases a:g ac ws with
 |mk r ws' =>
  rw[a]at q;cases r with
  |next env'=>exact λσ' H' I'=>⟨P,env',ws',I',q⟩
  |ret d=>exact q
  |brk _=>exact q
  |cont _=>exact q
  |bad=>exact q
def qR(c:En->Ab D->Aa (Bool×Ab D))(g h:En->Ab D->Res×Ab D):En->Ab D->Res×Ab D:=λac ws=>match c ac ws with
 |some (true,ws')=>g ac ws'
 |some (false,ws')=>h ac ws'
 |none=>(.bad,ws)
def Z73(hc:QTg X A c b')(b:QSsg X A sa g)(a:QSsg X A sb h):QSg X A (.If c sa sb ai) (qR b' g h):=.mk (Z4b hc b a) λE σ H ⟨P,ac,ws,I,q⟩=>by
 unfold qR at q;split at q
 .rename_i ws' h1;exact⟨P,ac,ws,true,ws',I,h1,λH' I'=>yC ⟨P,ac,ws',I',q⟩⟩
 .rename_i ws' h1;exact⟨P,ac,ws,false,ws',I,h1,λH' I'=>zX ⟨P,ac,ws',I',q⟩⟩
 .exact q.elim
def E8(f:En->Ab D->Aa (D×Ab D)):En->Ab D->Res×Ab D:=λac ws=>match f ac ws with
 |some (d,ws')=>(.ret d,ws')
 |none=>(.bad,ws)
def Z3X(he:QEg X A e f'):QSg X A (.Return (some e) ai) (E8 f'):=.mk (gT he) λE σ H ⟨P,ac,ws,I,q⟩=>by
 unfold E8 at q;split at q
 .rename_i d ws' h1;refine⟨P,ac,ws,d,ws',I,h1,λv H' ⟨fw,W,IS⟩=>?_⟩;obtain⟨fp,r,nd,fr⟩:=sH IS;exact q v H' fp fw W IS.same r fr nd
 .exact q.elim
end
theorem uL{K:Frag}{st:Bool}{H:Hp}:∀{ws1 ws2:Ab D}{w:D}{vs:Ab V}{fp:Ab Af},Reps K st H (ws1++w::ws2) vs fp->∃a v b f1 f i,vs=a++v::b/\a.length=ws1.length/\fp=f1++(f++i)/\Reps K st H ws1 a f1/\Rep K st H w v f/\Reps K st H ws2 b i
 |[],ws2,w,vs,fp,h=>by
  simp only[List.nil_append,Reps]at h;obtain⟨v,r,f1,i,rfl,rfl,h1,h2⟩:=h;exact⟨[],v,r,[],f1,i,rfl,rfl,rfl,gY,h1,h2⟩
 |x::ws1,ws2,w,vs,fp,h=>by
  simp only[List.cons_append,Reps]at h;obtain⟨v,r,f1,i,rfl,rfl,h1,h2⟩:=h;obtain⟨a,t,b,n,f,o,rfl,l,rfl,q,p,j⟩:=uL h2;exact⟨v::a,t,b,f1++n,f,o,rfl,by simp[l],by simp,Reps.consR h1 q,p,j⟩
theorem qV:∀{a b:Ab D},pln.plns (a++b)=(pln.plns a&&pln.plns b)
 |[],b=>by simp[pln.plns]
 |x::a,b=>by simp[pln.plns,qV (a:=a) (b:=b),Bool.and_assoc]
section
variable {K:Frag}{P H H':Hp}{σ:L2.St}{ac:En}{F:Nat->Ab Af}{d w w':D}{v:V}{fp f:Ab Af}{A1 A2:Ab Af}{ws1 ws2:Ab D}{a:Af}
def hw_one:Hw K H [a] [w] f↔Rep K true H w (.ref a) f/\f.Nodup/\pln w=true:=by
 constructor
 .intro h;have i:=h.rep;simp only[Qan,Qa5,Reps]at i;obtain⟨n,p,f1,o,l,b,h1,q,j⟩:=i;cases l;subst j;rw[QaN]at b;subst b;have:=h.pl;simp only[pln.plns,Qa4]at this;exact⟨h1,h.nd,this⟩
 .intro⟨h1,h2,h3⟩;refine⟨?_,h2,by simp[pln.plns,h3]⟩;have:=Reps.consR h1 (gY (K:=K) (m:=true) (H:=H));rw[QaN]at this;exact this
def Z5Y(T:A1.length=ws1.length)(W:Hw K H (A1++a::A2) (ws1++w::ws2) fp)(n:SInv K P (Hid H fp) σ ac) :
  ∃f,Hw K H [a] [w] f/\(∀b∈f,b∈fp) /\
   ∀H' v d w',SInvG K (Hid H f) H' [some v] [some (true,d)] [a] [w']->SInvG K P H' (σ++[some v]) (ac++[some (true,d)]) (A1++a::A2) (ws1++w'::ws2):=by
 obtain⟨E,nd,pl⟩:=W;obtain⟨vs1,v0,vs2,f1,f,i,I,el,rfl,B,r,A⟩:=uL E;rw[QaT,Qan]at I;obtain⟨M,e2⟩:=List.append_inj I (by simp[el,T]);cases e2;subst M;simp only[qV,pln.plns,Qak]at pl;obtain⟨U,n2,J⟩:=Qau.mp nd;obtain⟨G,Z,Y⟩:=Qau.mp n2;have t:∀b∈f1,b∉f:=λb h1 h2=>J b h1 b (Qar _ h2) rfl;have p:∀b∈i,b∉f:=λb h1 h2=>Y b h2 b h1 rfl;refine⟨f,hw_one.mpr ⟨r,G,pl.2.1⟩,λb hb=>Qae _ (Qar _ hb),λH' v d w' ⟨f',W',IS'⟩=>?_⟩;obtain⟨s1,N,s3⟩:=hw_one.mp W';obtain⟨fv,Q,L,j⟩:=sH (σ:=[]) (ac:=[]) IS';have X:=IS'.same;have step:∀{b:Af}{o:HO},b∉f->H b=some o->b∉f'/\H' b=some o:=λ{b o} hb e=>gU (X b o (by rw[bW hb];exact e));have l:Hd H f:=(hw_one.mpr ⟨r,G,pl.2.1⟩:Hw K H [a] [w] f).hd;have C:∀{g:Ab Af},(∀b∈g,b∉f)->Kp g H H':=λ{g} ap=>⟨λb hb o e=>(step (ap b hb) e).2,λb xs e=>(step (l.tup e) e).2,λb o u e=>(step (l.frz e) e).2⟩;have S:=Reps.keep _ _ _ (C t) B;have R2:=Reps.keep _ _ _ (C p) A;have b1:∀b∈f1,b∉f':=λb hb=>by
  obtain⟨o,e⟩:=Reps.dom _ _ _ B b hb;exact(step (t b hb) e).1
 have O:∀b∈i,b∉f':=λb hb=>by
  obtain⟨o,e⟩:=Reps.dom _ _ _ A b hb;exact(step (p b hb) e).1
 have q:Hw K H' (A1++a::A2) (ws1++w'::ws2) (f1++(f'++i)):=by
  refine⟨?_,?_,by simp only[qV,pln.plns,Qak];exact⟨pl.1,s3,pl.2.2⟩⟩
  .rw[QaT,Qan];exact S.append (Reps.consR s1 R2)
  .refine Qau.mpr ⟨U,Qau.mpr ⟨N,Z,λx hx y hy z=>O y hy (z ▸ hx)⟩,λx hx y hy z=>?_⟩;rcases Qaf.mp hy with hy|hy
   .exact b1 x hx (z ▸ hy)
   .exact J x hx y (Qae _ hy) z
 obtain⟨F,hF⟩:=n.ex;have v1:∀b∈fv,b∉f1:=λb hb h=>by
  obtain⟨o,e⟩:=Reps.dom _ _ _ B b h;have:=j b hb;rw[bW (t b h),e]at this;cases this
 have v2:∀b∈fv,b∉i:=λb hb h=>by
  obtain⟨o,e⟩:=Reps.dom _ _ _ A b h;have:=j b hb;rw[bW (p b h),e]at this;cases this
 refine⟨_,q,sG (H:=Hid H (f1++(f++i))) n.same n.len hF (λb o e=>?_) (Rep.keep _ _ _ ⟨λb hb o e=>?_,λb xs e=>?_,λb o u e=>?_⟩ Q) L λb hb=>?_⟩
 .obtain⟨h1,h2⟩:=gU e;have nf:b∉f:=λz=>h1 (Qae _ (Qar _ z));obtain⟨h3,R⟩:=step nf h2;rw[bW λz=>?_]
  .exact R
  .rcases Qaf.mp z with z|z
   .exact h1 (Qar _ z)
   .rcases Qaf.mp z with z|z
    .exact h3 z
    .exact h1 (Qae _ (Qae _ z))
 .obtain⟨h1,h2⟩:=gU e;rw[bW λz=>?_]
  .exact h2
  .rcases Qaf.mp z with z|z
   .exact v1 b hb z
   .rcases Qaf.mp z with z|z
    .exact h1 z
    .exact v2 b hb z
 .rw[bW (q.hd.tup (gU e).2)];exact(gU e).2
 .rw[bW (q.hd.frz (gU e).2)];exact(gU e).2
 .by_cases h:b∈f1++(f++i)
  .exact rG h
  .have:=j b hb;rw[bW λz=>h (Qae _ (Qar _ z))]at this;rw[bW h];exact this
def Z8b:EnvS K P H [] [] (λ_=>[]):=⟨λi o d e=>by simp at e,λi d e=>by simp at e⟩
def vL(s:Same P H)(r:Rep K true H d v f)(nd:f.Nodup)(fr:∀b∈f,P b=none):SInv K P H [some v] [some (true,d)] :=
 sG (σ:=[]) (ac:=[]) (Same.refl P) rfl Z8b s r nd fr
end
def spG(K:Frag)(n:Nat)(g:Af->D->Ab D->Aa (D×D)):Sp:=λvs H Q _=>∃a us w ds fw fps d w',vs=.ref a::us/\ds.length=n/\Hw K H [a] [w] fw/\Reps K false (Hid H fw) ds us fps/\g a w ds=some (d,w') /\
 ∀v H',SInvG K (Hid H fw) H' [some v] [some (true,d)] [a] [w']->Q v H'
def Z8L{K:Frag}{n:Nat}{g:Af->D->Ab D->Aa (D×D)}{vs:Ab V}{H:Hp}{Q:VK}{E:XK}(h:spG K n g vs H Q E):vs.length=n+1:=by
 obtain⟨a,us,w,ds,fw,b,d,w',rfl,h1,_,h2,_⟩:=h;rw[Qai,h2.length,h1]
def E5(L:Nat)(G:Af->En->Ab D->Res×Ab D)(a:Af)(w:D)(ds:Ab D):Aa (D×D):=match G a (eU L (.fn a [] []::ds)) [w] with
 |(.ret d,[w'])=>some (d,w')
 |(.next _,[w'])=>some (.non,w')
 |_=>none
def FunD.okG{P:Aj}{w:Ak}{K:Frag}{mg:Str->Aa Ad}{ad:Ah}{x ah:Str}{st:Stmt}{f:Af}{fd:FuncData}{N ps:Ab Str}{k n L:Nat}{G:Af->En->Ab D->Res×Ab D}(F:FunD K x ah st f fd)(S:fL N ps (aS st))(y:ps.length=n+1)(B:N.length=L)
  (j:∀(a:Af) (i:Ad) (A:Ai) (af:Ab Env) (s:Ac) (H:Hp) (E:XK),Room k (A.deeper (envOfC ah (aS st) s.heap.objs.size f i))->QSsg (yK CX0 P w K mg ad N ah (aS st) f i A af s H E).nox [a] (cN st) (G a)) :
  jK P w K mg ad CX0 (k+1) f fd ps (spG K n (E5 L G)):=by
 subst B;obtain⟨J,M,O,kV,C,R,an,i,ct,I,rfl,u,p⟩:=F.ex;refine Z1V u p S (λvs H Q E h=>(Z8L h).trans y.symm) λA af s H vs Q E hr hsp=>?_;obtain⟨a,us,w,ds,fw,o,d,w',rfl,h1,W,h2,h3,q⟩:=hsp;have hq:=j a i A af s H E hr;have hs:Reps K false (Hid H fw) (.fn a [] []::ds) (.ref a::us) ([]++o):=Reps.consR (by simp only[Rep];exact⟨trivial,gY⟩) h2;refine⟨_,PSs.nox hq,Hid H fw,eU N.length (.fn a [] []::ds),[w],⟨fw,W,oX hs⟩,?_⟩;unfold E5 at h3;split at h3
 .rename_i d' t l;cases h3;simp only[l];exact λv H' fp fw' W' s' r fr nd=>q v H' ⟨fw',W',vL s' r nd fr⟩
 .rename_i T t l;cases h3;simp only[l];exact λσ' H' ⟨fw',W',I'⟩=>q .non H' ⟨fw',W',vL I'.same pB QaD (λb j=>(by cases j))⟩
 .cases h3
structure C0(P:Program)(w:World)(K:Frag)(mg:Str->Option Value)(base:Heap)(x:Str)(k n:Nat)(g:Addr->D->List D->Option (D×D)):Prop where
 ex:∃fA fd ps,jK P w K mg base CX0 k fA fd ps (spG K n g)/\mg x=some (.ref fA)/\keepIn K (.ref fA)=true/\Binds K fd ps []
open Classical in
def Z5U(A:Ab Af)(j:Nat)(g:Af->D->Ab D->Aa (D×D))(fs:En->Aa (Ab D)):En->Ab D->Aa (D×Ab D):=λac ws=>match fs ac,A[j]?,ws[j]? with
 |some (.fn a' [] []::ds),some a,some w=>if a'=a then(g a w ds).map λp=>(p.1,ws.set j p.2) else none
 |_,_,_=>none
def Z3t(h:l[j]?=some x):l=l.take j++x::l.drop (j+1):=by
 obtain⟨h1,h2⟩:=Qah.mp h;subst h2;rw[<- Qbe h1,List.take_append_drop]
def Zbi{α:Type}{l:Ab α}{j:Nat}{x y:α}(h:l[j]?=some x):l.set j y=l.take j++y::l.drop (j+1):=by
 obtain⟨h1,_⟩:=Qah.mp h;rw[List.set_eq_take_append_cons_drop,if_pos h1]
section
variable {X:Cx}{m1 m2:Bool}{rs1 rs2:Ab Nat}{A:Ab Af}{e a b c:Ag}{es rest:Ab Ag}{fs:En->Aa (Ab D)}{fb:En->Aa D}{ga:En->Ab D->Aa (D×Ab D)}{ta tb:En->Ab D->Aa (Bool×Ab D)}{ai p:Pos}{x:Str}{k n j:Nat}{g:Af->D->Ab D->Aa (D×D)}
def Z43(c:C0 X.prog X.w X.K X.mg X.base x k n g)(hr:Room k X.A)(J:NArgs (n+1) fs)(R:QA X m1 rs1 (e::es) fs)(T:Gl X x:=by rfl)
  (M:nDb x:=by decide) (he:sEa e es X.env:=by rfl) (hpl:bTa ai es X.env:=by rfl) :
  QEg X A (.Call (.Name x p) (e::es) [] ai) (Z5U A j g fs):=by
 classical
 obtain⟨fA,fd,ps,G,U,S,h⟩:=c.ex;refine .mk (L2.pe_call (dvs:=[]) G hr T U S h .nil Z1y R M he hpl) λσ H Q ⟨P,ac,ws,d,ws',⟨fp,W,IS⟩,e,q⟩=>?_;unfold Z5U at e;split at e
 .rename_i E ds a w h1 h2 h3;split at e
  .rename_i B;subst B;cases t:g E w ds with
   |none=>rw[t]at e;cases e
   |some pr =>
    obtain⟨d',w'⟩:=pr;rw[t]at e;cases e;obtain⟨F,hF⟩:=IS.ex;refine⟨ac,λr=>if ∃s,ac[r]?=some (some s) then F r else[],_,λi o d2 l=>?_,h1,λvs H1 fpa s r cd=>?_⟩
    .obtain⟨v,v1,Z⟩:=hF.ok i o d2 l;refine⟨v,v1,?_⟩;show Rep X.K false H d2 v (if ∃s,ac[i]?=some (some s) then F i else[]);rw[if_pos ⟨_,l⟩];exact Z.same hid_le
    .have lw:A.length=ws.length:=by have:=W.rep.length;simpa using this
     have N:=W.same s;have I:=IS.grow (kK (fw:=fp) s);rw[Z3t h2,Z3t h3]at N;obtain⟨f,y,sub,back⟩:=Z5Y (by simp[lw]) N I;simp only[Reps]at r;obtain⟨v0,us,f1,C,rfl,rfl,O,r2⟩:=r;simp only[Rep]at O;obtain⟨rfl,_⟩:=O;have Y:∀b∈C,b∉fp:=λb h hz=>by
      obtain⟨o,eo⟩:=W.dom b hz;rcases cd.1 b (Qae _ h)with z|⟨rr,_,z⟩
      .rw[eo]at z;cases z
      .by_cases hs:∃s,ac[rr]?=some (some s)
       .simp only[if_pos hs]at z;obtain⟨sl,hs⟩:=hs;obtain⟨o2,l⟩:=hF.dom hs b z;rw[rG hz]at l;cases l
       .simp only[if_neg hs]at z;cases z
     have L:ds.length=n:=by have:=J.len ac _ h1;simpa using this
     refine⟨E,us++[],w,ds,f,C,d',w',rfl,L,y,?_,t,λv H2 I2=>q v H2 ?_⟩
     .rw[QaN];exact Reps.keep _ _ _ ⟨λb h o e=>by rw[bW (λz=>Y b h (sub b z))];exact e,λb xs e=>by rw[bW (y.hd.tup e)];exact e,λb o u e=>by rw[bW (y.hd.frz e)];exact e⟩ (Reps.weak _ _ _ r2)
     .have:=back H2 v d' w' I2;rw[<- Z3t h2,<- Zbi h3]at this;exact this
  .cases e
 .cases e
def gEq(neg:Bool)(ga:En->Ab D->Aa (D×Ab D))(fb:En->Aa D):En->Ab D->Aa (Bool×Ab D):=λac ws=>match ga ac ws with
 |some (d,ws')=>match fb ac with
  |some y=>(eqN 8 d y).map λk=>(if neg then !k else k,ws')
  |none=>none
 |none=>none
def Z7X(I:SInvG X.K P H σ ac A ws)(e:gEq neg ga fb ac ws=some (bb,ws'))(q:∀H',SInvG X.K P H' σ ac A ws'->Q (.bl bb) H') :
  tOp (ZbB neg X.K) (tDg X.K A ga) (tD X.K m2 rs2 fb) σ H Q:=by
 unfold gEq at e;split at e
 .rename_i d ws1 h1;split at e
  .rename_i y h2;cases h3:eqN 8 d y with
   |none=>rw[h3]at e;cases e
   |some k =>
    rw[h3]at e;cases e;refine⟨P,ac,ws,d,_,I,h1,λv H1 I1=>?_⟩;have a:=I1.pop;obtain⟨F,hF⟩:=a.eok;obtain⟨fw,W,b⟩:=I1;obtain⟨fp,r,_,_⟩:=sH b;exact⟨ac,F,y,hF,h2,λu H2 f2 s r2 _=>⟨d,y,fp,f2,k,_,_,(r.same hid_le).same s,r2,h3,q H2 (a.grow s)⟩⟩
  .cases e
 .cases e
def Z72(i:X.A.units+8<=cLine)(h:QEg X A a ga)(f:QE X m2 rs2 b fb):QTg X A (.Compare a [.NotEq] [b] ai) (gEq true ga fb) :=
 .mk (Z4a (Z30 i) h f (kP _)) λσ H Q ⟨P,ac,ws,bb,ws',I,e,q⟩=>Z7X I e λH' I'=>⟨bb,rfl,q H' I'⟩
def QWg(X:Cx)(A:Ab Af)(e:Ag)(f:En->Ab D->Aa (Bool×Ab D)):Prop:=PW X e (Z8G X.K A f)
def QWg.mk(h:PW X e t)(hi:∀σ H Q,Z8G X.K A ta σ H Q->t σ H Q):QWg X A e ta:=λwhole aa s σ H Q I q=>h whole aa s σ H Q I (hi σ H Q q)
def QWg.qt(h:QWg X A e ta):QTg X A e ta:=h.pt
def Za9(ta tb:En->Ab D->Aa (Bool×Ab D)):En->Ab D->Aa (Bool×Ab D):=λac ws=>match ta ac ws with
 |some (true,ws')=>tb ac ws'
 |some (false,ws')=>some (false,ws')
 |none=>none
def Z71(b:QTg X A a ta):QWg X A (.BoolOp .And [a] ai) ta:=.mk (Z49 b) λσ H Q q=>q
def Z9b(f:QTg X A a ta)(h:QWg X A (.BoolOp .And (b::rest) ai) tb):QWg X A (.BoolOp .And (a::b::rest) ai) (Za9 ta tb) :=
 .mk (Z79 f h) λσ H Q ⟨P,ac,ws,bb,ws',I,e,q⟩=>by
  unfold Za9 at e;split at e
  .rename_i ws1 h1;exact⟨P,ac,ws,true,_,I,h1,λH' I'=>by refine yC ?_;exact⟨P,ac,ws1,bb,ws',I',e,q⟩⟩
  .rename_i ws1 h1;cases e;exact⟨P,ac,ws,false,_,I,h1,λH' I'=>by refine zX ?_;exact q H' I'⟩
  .cases e
end
def Z2E{K:Frag}{P H:Hp}{σ:L2.St}{ac:En}{v:V}{d:D}(h:SInv K P H (σ++[some v]) (ac++[some (true,d)])):∃F fp,EnvS K P H σ ac F/\Rep K true H d v fp/\fp.Nodup/\(∀b∈fp,P b=none)/\∀i s,ac[i]?=some (some s)->∀b∈F i,b∉fp:=by
 have p:σ.length=ac.length:=by have:=h.len;simpa using this
 obtain⟨F,hF⟩:=h.ex;have e:(ac++[some (true,d)])[ac.length]?=some (some (true,d)):=by simp
 obtain⟨l,n,a,f⟩:=hF.own _ _ e;refine⟨F,F ac.length,⟨λi o d e=>?_,λi d e=>?_⟩,a v (by rw[<- p];simp),l,n,λi s hi b hb hz=>f i s (QaA (mB hi)) (iS hi) b hz hb⟩
 .obtain⟨v,h1,h2⟩:=hF.ok i o d (iS e);rw[QaI (by rw[p];exact mB e)]at h1;exact⟨v,h1,h2⟩
 .obtain⟨l,n,a,f⟩:=hF.own i d (iS e);exact⟨l,n,λv hv=>a v (iS hv),λj s hj ej=>f j s hj (iS ej)⟩
theorem Z1w(hd:pln d=true):∀{ns a:Ab Str}{ds ds':Ab D},pln.plns ds=true->oH nm d ns ds=some (a,ds')->pln.plns ds'=true
 |[],a,[],ds',_,e=>by simp only[oH]at e;cases e;simp[pln.plns,hd]
 |n::ns,a,x::ds,ds',p,e=>by
  simp only[pln.plns,Qak]at p;simp only[oH]at e;split at e
  .cases e;simp[pln.plns,hd,p.2]
  .cases h:oH nm d ns ds with
   |none=>rw[h]at e;cases e
   |some pr =>
    rw[h]at e;cases e;simp only[pln.plns,Qak];exact⟨p.1,Z1w hd p.2 h⟩
 |[],_,_::_,_,_,e=>by simp[oH]at e
 |_::_,_,[],_,_,e=>by simp[oH]at e
open Classical in
def F0(C a:Af)(i:Nat)(nm:Str)(f:En->Ab D->Aa (D×Ab D)):En->Ab D->Res×Ab D:=λac ws=>match f ac ws with
 |some (d,[.obj C' ns ds])=>if C'=C/\ns.length<100/\pln d=true/\(∃o,ac[i]?=some (some (o,.fn a [] []))) then(match oH nm d ns ds with|some p=>(.next ac,[.obj C p.1 p.2])|none=>(.bad,ws)) else(.bad,ws)
 |_=>(.bad,ws)
section
variable {X:Cx}{e:Ag}{f':En->Ab D->Aa (D×Ab D)}{ai p pos':Pos}{i:Nat}{x nm:Str}{C a:Af}
def Z3Y(hN:X.N[i]?=some x)(hv:Vis X.env.scope x)(hc:Cls X.K C)(hn:NoAttr X.K C nm)(he:QEg X [a] e f')(hd:nDb x:=by decide)(hcd:(x==("__classdict__" : Str))=false:=by decide)
  (hs:swapsWith e (some (.Attribute (.Name x p) nm pos')) ai.line X.env=pure false:=by rfl):QSg X [a] (.Assign [.Attribute (.Name x p) nm pos'] e ai) (F0 C a i nm f') :=
 .mk (xQ (mL hN hv hd hcd) he hs) λE σ H ⟨P,ac,ws,I,q⟩=>by
  unfold F0 at q;split at q
  .rename_i d r ns ds h1;split at q
   .rename_i hC;obtain⟨rfl,hlt,hpd,o0,he0⟩:=hC;cases hp:oH nm d ns ds with
    |none=>simp only[hp]at q;exact q.elim
    |some pr =>
     simp only[hp]at q;refine⟨P,ac,ws,d,_,I,h1,λw H' ⟨fw,W,IS⟩=>?_⟩;obtain⟨F,fv,hF,J,a0,Z,A⟩:=Z2E IS;obtain⟨v0,U,n⟩:=hF.ok i o0 _ he0;simp only[Rep]at n;obtain⟨rfl,_⟩:=n;obtain⟨T,nd,pl⟩:=hw_one.mp W;simp only[Rep]at T;obtain⟨a',dx,vs,fp',ea,rfl,ha,hdx,Q,hr⟩:=T;cases ea;have R:Rep X.K true H' d w fv:=J.same hid_le;obtain⟨h,fp2,g1,g2,g3,L,g5,g6⟩:=Z1v R hr Q (show oH nm d ns ds=some (pr.1,pr.2) from hp)
     refine⟨.ref a,U,a,r,dx,_,rfl,ha,hc,hn,by rw[List.length_zip];omega,?_⟩;obtain⟨n1,n2⟩:=Qav.mp nd;obtain⟨n3,n4⟩:=Qav.mp n2;have B:dx≠a:=λz=>n1 (z ▸ Qag);have l:∀b∈fv,b∉a::dx::fp':=λb hb hz=>by
      obtain⟨o,e⟩:=Rep.dom _ _ _ J b hb;rw[rG hz]at e;cases e
     have Y:a∉fp2:=λz=>by
      rcases L a z with y|y
      .exact n1 (Qaa _ y)
      .exact l a y Qag
     have ndx:dx∉fp2:=λz=>by
      rcases L dx z with y|y
      .exact n3 y
      .exact l dx y (Qaa _ Qag)
     have S:fp2.Nodup:=g5 (Qau.mpr ⟨n4,a0,λx hx y hy z=>l y hy (Qaa _ (Qaa _ (z ▸ hx)))⟩);rw[g1];have g3':=Reps.keep _ _ _ (Kp.upd (o':=.ins r dx (pr.1.zip h)) ha (by intro xs z;cases z) (by intro x u z;cases z) Y) g3;have W2:Hw X.K (upd H' a (.ins r dx (pr.1.zip h))) [a] [.obj r pr.1 pr.2] (a::dx::fp2):=by
      refine hw_one.mpr ⟨?_,Qav.mpr ⟨λz=>(Qab.mp z).elim (λz=>B z.symm) Y,Qav.mpr ⟨ndx,S⟩⟩,?_⟩
      .simp only[Rep];exact⟨a,dx,h,fp2,rfl,rfl,bC,by rw[aY B];exact hdx,g2,g3'⟩
      .simp only[pln]at pl ⊢;exact Z1w hpd pl (show oH nm d ns ds=some (pr.1,pr.2) from hp)
     have f:∀{b:Af}{o:HO},b∉fv->Hid H' (a::dx::fp') b=some o->Hid (upd H' a (.ins r dx (pr.1.zip h))) (a::dx::fp2) b=some o:=λ{b o} hb e=>by
      obtain⟨h1,h2⟩:=gU e;have v:b≠a:=λz=>h1 (z ▸ Qag);rw[bW λz=>?_,aY v]
      .exact h2
      .rcases Qab.mp z with z|z
       .exact v z
       .rcases Qab.mp z with z|z
        .exact h1 (z ▸ Qaa _ Qag)
        .rcases L b z with y|y
         .exact h1 (Qaa _ (Qaa _ y))
         .exact hb y
     have t:∀b∈fv,Z8s (Hid H' (a::dx::fp')) b:=Z3 _ _ _ J;have O:∀{g:Ab Af},(∀b∈g,b∉fv)->Kp g (Hid H' (a::dx::fp')) (Hid (upd H' a (.ins r dx (pr.1.zip h))) (a::dx::fp2)):=λ{g} ap =>
      ⟨λb hb o e=>f (ap b hb) e,λb xs e=>f (λz=>(t b z).1 xs e) e,λb o u e=>f (λz=>(t b z).2 o u e) e⟩
     have G:σ.length=ac.length:=by have:=IS.len;simpa using this
     refine q _ _ ⟨_,W2,λb o e=>f (λz=>by rw[Z b z]at e;cases e) (IS.same b o e),G,F,λj o d2 e2=>?_,λj d2 e2=>?_⟩
     .obtain⟨M,v3,v4⟩:=hF.ok j o d2 e2;exact⟨M,v3,Rep.keep _ _ _ (O (A j _ e2)) v4⟩
     .obtain⟨c1,c2,c3,c4⟩:=hF.own j d2 e2;exact⟨c1,c2,λM n=>Rep.keep _ _ _ (O (A j _ e2)) (c3 M n),c4⟩
   .exact q.elim
  .exact q.elim
end
open PySem.W (hideAll hideAll_get hideAll_none funFrames_hide)
def Fly(H':Hp)(h0 h':Ah)(a:Af)(cls:Ad):Prop :=
 H' a=none/\h0.get? a=none/\∃oe vs T oT ts,h'.get? a=some oe/\oe.cls=cls/\oe.data=.fields vs/\vs[1]?=some (.ref T)/\T≠a/\h'.get? T=some oT/\oT.data=.fields ts/\ts[3]?=some .none/\H' T=none/\h0.get? T=none
def CXe(P:Aj)(w:Ak):CXT:=λaf H s E e s'=>∃a C H',e=.ref a/\s'.os=s.os/\AllBare s'.gens/\Un (frs af) [] H H' s.heap s'.heap/\HOk P w H' s'.heap/\Fly H' s.heap s'.heap a (.ref C)/\E (.ref C) none H'
section
variable {X:Cx}{aa:Ab (Af×Obj)}{σ:L2.St}{H:Hp}{s:Ac}{h2 h3:Ah}{a:Af}{cls:Ad}
def X3(I:Inv X aa σ H s){b:Af}{o:Obj}(q:X.s₀.heap.get? b=some o)(a:b∉X.fs):b∉frs X.stack:=λz=>by
 rcases Qab.mp (I.stkSub b z)with e|e
 .have:=I.ok.above;rw[e]at q;exact absurd (Qal q) (Nat.not_lt.mpr this)
 .exact a e
def Z7C(I:Inv X aa σ H s)(k2:∀b o,s.heap.get? b=some o->h2.get? b=some o)(v:Heap.Left (hideAll s.heap (frs X.stack)) X.stack a cls h2 h3) :
  HOk X.prog X.w H h3/\Un X.fs X.ex X.H₀ H X.s₀.heap h3:=by
 obtain⟨st,x,_,l⟩:=v;have j:∀b o,s.heap.get? b=some o->b∉frs X.stack->h3.get? b=some o:=λb o q hb=>st b o (hideAll_get _ q hb);have r:∀b o,s.heap.get? b=some o->b∈frs X.stack->∃l,h3.get? b=some { o with slots:=l }:=λb o q hb=>by
  obtain⟨_,o',f,h⟩:=I.stack.mem hb;rw[q]at f;cases f;exact l b o (k2 b o q) h
 refine⟨λb o e=>(I.hok b o e).stay (λc u hc q=>j c u q λz=>?_) (λ_ q=>q) λ_ _ q=>q,⟨λb o q n hb hx=>?_,λb o q n hb hx=>?_,I.base.free,λb o q hx=>?_,I.base.tups,I.base.frzs,I.base.tbls⟩⟩
 .have:=I.stkFree c z;rcases hc with rfl|hc
  .rw[e]at this;cases this
  .rw[hc]at this;cases this
 .exact j b o (I.base.keep b o q n hb hx) (X3 I q hb)
 .obtain⟨s1,f⟩:=I.base.slot b o q n hb hx;by_cases i:b∈frs X.stack
  .obtain⟨p,h⟩:=r b _ f i;exact⟨p,h⟩
  .exact⟨s1,j b _ f i⟩
 .obtain⟨t,f⟩:=I.base.there b o q hx;by_cases i:b∈frs X.stack
  .obtain⟨p,h⟩:=r b _ f i;exact⟨_,h⟩
  .exact⟨t,j b _ f i⟩
def Z5z{P:Aj}{w:Ak}{H:Hp}{h:Ah}{a:Af}{o:HO}(x:ObjOk P w H h a o):∃u,h.get? a=some u:=by
 cases o<;>first
  |(obtain⟨_,_,_,_,e⟩:=x;exact⟨_,e⟩)
  |(obtain⟨_,_,_,_,e,_⟩:=x;exact⟨_,e⟩)
  |(obtain⟨_,_,_,_,b,_,_,e,_⟩:=x;exact⟨_,e⟩)
  |(obtain⟨_,_,_,_,b,_,e,_⟩:=x;exact⟨_,e⟩)
  |(obtain⟨c,o,_,_,z,e,_⟩:=x;cases z;exact⟨_,e⟩)
  |(obtain⟨_,e,_⟩:=x;exact⟨_,e⟩)
  |exact⟨_,x.2.2.2.1⟩
  |exact x
  |(obtain⟨_,⟨_,_,_,e,_⟩,_⟩:=x;exact⟨_,e⟩)
  |(obtain⟨_,_,_,e⟩:=x;exact⟨_,e⟩)
  |exact⟨_,x.1⟩
  |exact⟨_,x⟩
  |exact x.2.1
def vJ(I:Inv X aa σ H s){b:Af}(h:s.heap.get? b=none):H b=none:=by
 cases q:H b with
 |none=>rfl
 |some o =>
  obtain⟨u,e⟩:=Z5z (I.hok b o q);rw[h]at e;cases e
def nF(I:Inv X aa σ H s)(a:X.ex=[]){b:Af}(h:s.heap.get? b=none):X.s₀.heap.get? b=none:=by
 cases q:X.s₀.heap.get? b with
 |none=>rfl
 |some o =>
  obtain⟨u,e⟩:=I.base.there b o q (by rw[a];simp);rw[h]at e;cases e
def Z0k{l:Ab Env}:∀ac∈l,∀a,ac.frame=some a->a∈frs l:=λac he a hf=>List.mem_filterMap.mpr ⟨ac,he,hf⟩
def Zcd(I:Inv X aa σ H s)(b:X.ex=[])(f:s.heap.get? a=none)(A:Heap.Left (hideAll s.heap (frs X.stack)) X.stack a cls h2 h3):Fly H X.s₀.heap h3 a cls:=by
 obtain⟨st,u,⟨y,vs,T,oT,n,t1,t2,t3,w,l,x,i,p,t⟩,B⟩:=A;have j:s.heap.get? T=none:=by
  cases q:s.heap.get? T with
  |none=>rfl
  |some o =>
   by_cases r:T∈frs X.stack
   .obtain⟨_,o',h,v⟩:=u.mem r;rw[i]at h;cases h;exact absurd p (v n)
   .rw[hideAll_get _ q r]at l;cases l
 exact⟨vJ I f,nF I b f,y,vs,T,oT,n,t1,t2,t3,w,x,i,p,t,vJ I j,nF I b j⟩
def Z9X{C:Af}{E:XK}(I:Inv X aa σ H s)(f:X.ex=[])(k2:∀b o,s.heap.get? b=some o->h2.get? b=some o)(i:s.heap.get? a=none)(h:Heap.Left (hideAll s.heap (frs X.stack)) X.stack a (.ref C) h2 h3)(q:E (.ref C) none H){g:Ae GenState}{d:Drawn}{t:Nat}(j:AllBare g) :
  CXe X.prog X.w X.outer X.H₀ X.s₀ E (.ref a) ⟨h3,g,d,t,s.os⟩:=by
 obtain⟨l1,l2⟩:=Z7C I k2 h;rw[f]at l2;exact⟨a,C,H,rfl,I.os,j,l2,l1,Zcd I f i h,q⟩
def Z1H{C:Af}{args:Ab Ad}{E:XK}{u:Ad->Ac->Prop}(I:Inv X aa σ H s)(r:X.ex=[])(p:X.stack=X.env::X.outer)(x:X.env.frame=some X.env.locals)
  (mk:Heap.MadeExcOf s.heap h2 a (.ref C) args) (q:E (.ref C) none H) :
  wpAny (model X.prog X.w) X.A («leaving» X.env (.ref a)) (λ_ s''=>CXe X.prog X.w X.outer X.H₀ X.s₀ E (.ref a) s'') u { s with heap:=h2 }:=by
 obtain⟨t,v,y,B⟩:=mk.there;have n:s.heap.FunFrames (hideAll s.heap (frs X.stack)) X.stack:=funFrames_hide I.stack Z0k;have l:h2.FunFrames (hideAll s.heap (frs X.stack)) X.stack:=n.of_keeps λb o hb _=>⟨o,mk.keeps b o hb,rfl⟩;have f:(hideAll s.heap (frs X.stack)).StaysIn h2:=λb o hb=>mk.keeps b o (Qbm _ hb);have i:(hideAll s.heap (frs X.stack)).get? a=none:=by
  cases q:(hideAll s.heap (frs X.stack)).get? a with
  |none=>rfl
  |some o=>have:=Qbm _ q;rw[mk.new]at this;cases this
 have h:=I.ok.frames;have j:=@Z9X X aa σ H s h2
 revert l f i h j
 rw[p];intro l f i h j;refine wpAny_leaving_first (s:={ s with heap:=h2 }) h l x v f i rfl rfl λh3 lf=>?_;exact j I r mk.keeps mk.new lf q I.bare
def T4(I:Inv X aa σ H s){xs:Ab Af}(h:∀x∈xs,H x=none/\X.s₀.heap.get? x=none)(y:Heap.Left (hideAll s.heap (xs++frs X.stack)) X.stack a cls s.heap h3) :
  HOk X.prog X.w H h3/\Un X.fs X.ex X.H₀ H X.s₀.heap h3:=by
 obtain⟨st,A,_,p⟩:=y;have l:∀b o,s.heap.get? b=some o->b∉frs X.stack->b∉xs->h3.get? b=some o:=λb o q hb hc=>st b o (hideAll_get _ q λz=>(Qaf.mp z).elim hc hb);have t:∀b o,s.heap.get? b=some o->b∈frs X.stack->∃p,h3.get? b=some { o with slots:=p }:=λb o q hb=>by
  obtain⟨_,o',f,i⟩:=I.stack.mem hb;rw[q]at f;cases f;exact p b o q i
 have nx:∀b o,X.s₀.heap.get? b=some o->b∉xs:=λb o q z=>by rw[(h b z).2]at q;cases q
 refine⟨λb o e=>(I.hok b o e).stay (λc u hc q=>l c u q (λz=>?_) λz=>?_) (λ_ q=>q) λ_ _ q=>q,⟨λb o q n hb h=>?_,λb o q n hb h=>?_,I.base.free,λb o q h=>?_,I.base.tups,I.base.frzs,I.base.tbls⟩⟩
 .have:=I.stkFree c z;rcases hc with rfl|hc
  .rw[e]at this;cases this
  .rw[hc]at this;cases this
 .have:=(h c z).1;rcases hc with rfl|hc
  .rw[e]at this;cases this
  .rw[hc]at this;cases this
 .exact l b o (I.base.keep b o q n hb h) (X3 I q hb) (nx b o q)
 .obtain⟨s1,f⟩:=I.base.slot b o q n hb h;by_cases j:b∈frs X.stack
  .obtain⟨r,i⟩:=t b _ f j;exact⟨r,i⟩
  .exact⟨s1,l b _ f j (nx b o q)⟩
 .obtain⟨v,f⟩:=I.base.there b o q h;by_cases j:b∈frs X.stack
  .obtain⟨r,i⟩:=t b _ f j;exact⟨_,i⟩
  .exact⟨v,l b _ f j (nx b o q)⟩
def Z3b{E E1:XK}{E':Ad->Ac->Prop}{e:Ad}{s':Ac}(I:Inv X aa σ H s)(h:X.ex=[])(O:X.stack=X.env::X.outer)(hf:X.env.frame=some X.env.locals)
  (cx:CXe X.prog X.w X.stack H s E1 e s') (q:∀C H',E1 (.ref C) none H'->E (.ref C) none H') :
  wpAny (model X.prog X.w) X.A («leaving» X.env e) (λ_ s''=>CXe X.prog X.w X.outer X.H₀ X.s₀ E e s'') E' s':=by
 obtain⟨a,C,H',rfl,os,y,un,Z,⟨fa,f0,oe,vs,T,oT,ts,t1,t2,t3,t4,t6,t7,t8,t9,R,N⟩,hq⟩:=cx;obtain⟨f,g,d,t,M⟩:=s';obtain rfl:M=s.os:=os;have J:Inv X aa σ H' ⟨f,g,d,t,s.os⟩:=I.call (h':=f) (g':=g) (d':=d) (t':=t) (ch:=[]) un Z y (λb z=>absurd z (by simp));have n:∀x∈[a,T],H' x=none/\X.s₀.heap.get? x=none:=λx hx=>by
  rcases Qab.mp hx with z|z
  .rw[z];exact⟨fa,nF I h f0⟩
  .have z:x=T:=by simpa using z
   rw[z];exact⟨R,nF I h N⟩
 have u:f.FunFrames (hideAll f ([a,T]++frs X.stack)) X.stack:=funFrames_hide J.stack λac he b hb=>Qae _ (Z0k ac he b hb);have i:(hideAll f ([a,T]++frs X.stack)).StaysIn f:=λb o hb=>Qbm _ hb;have j:(hideAll f ([a,T]++frs X.stack)).get? a=none:=hideAll_none _ (by simp);have Y:(hideAll f ([a,T]++frs X.stack)).get? T=none:=hideAll_none _ (by simp);have l:=J.ok.frames;have lu:=@T4 X aa σ H' ⟨f,g,d,t,s.os⟩;have v:∀h3,Heap.Left (hideAll f ([a,T]++frs X.stack)) X.stack a (.ref C) f h3->CXe X.prog X.w X.outer X.H₀ X.s₀ E (.ref a) ⟨h3,g,d,t,s.os⟩:=λh3 lf=>by
  obtain⟨l1,l2⟩:=T4 J n lf;rw[h]at l2;obtain⟨st,ff,⟨F,K,T',U,r,u1,u2,u3,u4,P,u6,S,W,u9⟩,sl⟩:=lf;have p:H' T'=none/\X.s₀.heap.get? T'=none:=by
   by_cases Q:T'∈frs X.stack
   .obtain⟨_,o',G,e2⟩:=ff.mem Q;rw[S]at G;cases G;exact absurd W (e2 r)
   .by_cases L:T'∈[a,T]
    .exact n T' L
    .have hn:f.get? T'=none:=by
      cases qq:f.get? T' with
      |none=>rfl
      |some o=>rw[hideAll_get _ qq λz=>(Qaf.mp z).elim L Q]at P;cases P
     exact⟨vJ J hn,nF J h hn⟩
  exact⟨a,C,H',rfl,J.os,J.bare,l2,l1,⟨fa,(n a (by simp)).2,F,K,T',U,r,u1,u2,u3,u4,u6,S,W,u9,p.1,p.2⟩,q C H' hq⟩
 have B:f.Traced (hideAll f ([a,T]++frs X.stack)) a (.ref C):=⟨oe,vs,T,oT,ts,t1,t2,t3,t4,Y,t6,t7,t8,t9⟩;clear lu
 revert u i j l v B
 rw[O];intro u i j l v B;exact wpAny_leaving_next (s:=⟨f,g,d,t,s.os⟩) l u hf B i j λh3 lf=>v h3 lf
end
structure ExC(base:Heap)(C:Addr):Prop where
 obj:∃(bmB tl:Ab Ad) (N:Af) (nm q:Str) (bs:Ab Ad) (hdct:Bool) (sn:Ab Str) (sub:Ab Ad) (ab:Bool) (col:Aa Bool) (dd:Aa Af) (k0 k1 k2 k3 k5:Aa Ad) (newId:String) (mN:Str->Aa Ad) (B nid initId Bn inN:String) (bmN:Ab Ad),
  base.get? C=some (excClassObj nm q C N bs tl hdct sn sub ab col dd k0 k1 k2 k3 k5 newId)/\base.Ns N mN/\mN "__init__" = none/\OwnTail base bmB tl/\ExcBaseFacts B nid initId bmB/\ExcBaseFacts Bn newId inN bmN/\bmB.contains (.type Bn)=true
section
variable {X:Cx}{C:Af}{x:Str}{np cpos ai:Pos}{e:Ag}{t:TA}{R:Hp->Prop}
def Z7e(O:ExC X.base C)(A:Gl X x)(E:X.mg x=some (.ref C))(hc:X.calm=true)(w:PA X [e] t)
  (r:∀aa σ H s h2 a args,Inv X aa σ H s->Heap.MadeExcOf s.heap h2 a (.ref C) args->R H->X.xe (.ref a) { s with heap:=h2 })
  (he:starEach [e] X.env=(false,eval e X.env)::starEach [] X.env:=by rfl) (b:(backTo cpos (starEach [] X.env)).any (·.1)=false:=by rfl) (hd:nDb x:=by decide) :
  PS X (.Raise (some (.Call (.Name x np) [e] [] cpos)) none ai) (λD σ H=>t σ H λvs H1=>vs.length<=sizeLine/\R H1):=by
 intro aa s σ H D I h;obtain⟨p,tl,N,nm,q,bs,hdct,sn,sub,ab,col,dd,k0,k1,k2,k3,k5,i,mN,B,L,o,P,K,M,J,G,u,T,j,F,n⟩:=O.obj;refine wpAny_Raise_call_subU (C:=C) (nm:=nm) (q:=q) (N:=N) (bs:=bs) (bm:=tl) (hdct:=hdct) (sn:=sn) (sub:=sub) (ab:=ab) (col:=col) (dd:=dd) (k0:=k0) (k1:=k1) (k2:=k2) (k3:=k3) (k5:=k5)
  F n j (mN:=mN) (T.hasType j.hasBase) (I.ok.hd hc) (by rw[he];show(false||(backTo cpos (starEach [] X.env)).any (·.1))=false;rw[b];rfl) u
  (thn (sO (v:=.ref C) A E rfl hd aa s σ H (λv H1=>v=.ref C/\t σ H1 λvs H2=>vs.length<=sizeLine/\R H2) I ⟨rfl,h⟩) λf s1 ⟨v,H1,I1,r1,e1,q1⟩=>?_)
 subst e1;cases r1;refine⟨rfl,?_⟩;have l:=thn (w cpos aa s1 σ H1 _ I1 q1) λus s2 ⟨vs,H2,I2,r2,q2⟩=>(show us.length<=sizeLine/\s2.heap.get? C=some (excClassObj nm q C N bs tl hdct sn sub ab col dd k0 k1 k2 k3 k5 i)/\s2.heap.Ns N mN/\OwnTail s2.heap p tl/\∀h' e,Heap.MadeExcOf s2.heap h' e (.ref C) us->X.xe (.ref e) { s2 with heap:=h' } from
  ⟨by rw[<- r2.length];exact q2.1,I2.bk _ _ J,G.keeps I2.bk,T.keeps I2.bk,λh' e mk=>r aa σ H2 s2 h' e us I2 mk q2.2⟩)
 rw[he]at l ⊢;exact Calls.evalArgs_plain (Rc l (λvs s₂ h₂=>⟨rfl,h₂⟩) λ_ _ y=>y)
end
section
variable {P:Aj}{w:Ak}{K:Frag}{mg:Str->Aa Ad}{ad:Ah}{N:Ab Str}{ah:Str}{ag:Scope}{f:Af}{cd:Ad}{A:Ai}{af:Ab Env}{s0:Ac}{H0:Hp}{E:XK}
abbrev cxE(P:Aj)(w:Ak)(K:Frag)(mg:Str->Aa Ad)(ad:Ah)(N:Ab Str)(ah:Str)(ag:Scope)(f:Af)(cd:Ad)(A:Ai)(af:Ab Env)(s0:Ac)(H0:Hp)(E:XK):Cx:=yK (CXe P w) P w K mg ad N ah ag f cd A af s0 H0 E
def Z6n:∀aa σ H s h2 a args,Inv (cxE P w K mg ad N ah ag f cd A af s0 H0 E) aa σ H s->Heap.MadeExcOf s.heap h2 a (.ref C) args->E (.ref C) none H->(cxE P w K mg ad N ah ag f cd A af s0 H0 E).xe (.ref a) { s with heap:=h2 } :=
 λaa σ H s h2 a args I mk q=>Z1H (X:=cxE P w K mg ad N ah ag f cd A af s0 H0 E) I rfl rfl rfl mk q
def Z8y:pV (CXe P w) (cxE P w K mg ad N ah ag f cd A af s0 H0 E) E :=
 λaa σ H s e s' I cx=>Z3b (X:=cxE P w K mg ad N ah ag f cd A af s0 H0 E) I rfl rfl rfl cx λ_ _ h=>h
end
section
variable {X:Cx}{aa:Ab (Af×Obj)}{σ:L2.St}{H:Hp}{s:Ac}
def Zej(H:Hp)(h:Ah)(a:Af):Prop:=∃oe vs T oT ts,h.get? a=some oe/\oe.data=.fields vs/\vs[1]?=some (.ref T)/\T≠a/\h.get? T=some oT/\oT.data=.fields ts/\ts[3]?=some .none/\H T=none
def Zcj(I:Inv X aa σ H s)(hst:X.stack=X.env::X.outer)(hf:X.env.frame=some X.env.locals)
  (cx:CXe X.prog X.w X.stack H s E1 e s')
  (q:∀a C H' s3,e=.ref a->H' a=none->E1 (.ref C) none H'->Inv X aa σ (upd H' a (.ext (rF a (.ref C)))) s3->Zej H' s3.heap a->Q () s3) :
  wpAny (model X.prog X.w) X.A (noteFrame e X.env) (λ_ E=>wpAny (model X.prog X.w) X.A (setFlight e none) Q E' E) E' s':=by
 obtain⟨a,C,H',rfl,os,y,un,hok,⟨fa,f0,oe,vs,T,oT,ts,t1,t2,t3,t4,t6,t7,t8,t9,K,t11⟩,hq⟩:=cx;obtain⟨f,g,d,t,os'⟩:=s';obtain rfl:os'=s.os:=os;have J:Inv X aa σ H' ⟨f,g,d,t,s.os⟩:=I.call (h':=f) (g':=g) (d':=d) (t':=t) (ch:=[]) un hok y (λb z=>absurd z (by simp));have O:f.FunFrames (hideAll f ([a,T]++frs X.stack)) X.stack:=funFrames_hide J.stack λac he b h=>Qae _ (Z0k ac he b h);have l:(hideAll f ([a,T]++frs X.stack)).StaysIn f:=λb o h=>Qbm _ h;have r:(hideAll f ([a,T]++frs X.stack)).get? a=none:=hideAll_none _ (by simp);have hnT:(hideAll f ([a,T]++frs X.stack)).get? T=none:=hideAll_none _ (by simp);have x:=J.ok.frames;have Y:f.Traced (hideAll f ([a,T]++frs X.stack)) a (.ref C):=⟨oe,vs,T,oT,ts,t1,t2,t3,t4,hnT,t6,t7,t8,t9⟩;have W:∀h3,Heap.Left (hideAll f ([a,T]++frs X.stack)) X.stack a (.ref C) f h3->Q () ⟨h3,g,d,t,s.os⟩:=λh3 lf=>by
  obtain⟨st,ff,⟨F,G,T',oT',ts',u1,u2,u3,u4,u5,u6,u7,u8,u9⟩,R⟩:=lf;have nx:∀b o,s.heap.get? b=some o->b∉[a,T]:=λb o j z=>by
   rcases Qab.mp z with z|z
   .rw[z,f0]at j;cases j
   .have z:b=T:=by simpa using z
    rw[z,t11]at j;cases j
  have tr:∀b o,H' b=some o->b∉[a,T]:=λb o j z=>by
   rcases Qab.mp z with z|z
   .rw[z,fa]at j;cases j
   .have z:b=T:=by simpa using z
    rw[z,K]at j;cases j
  have L:∀b o,f.get? b=some o->b∉frs X.stack->b∉[a,T]->h3.get? b=some o:=λb o q h hc=>st b o (hideAll_get _ q λz=>(Qaf.mp z).elim hc h);have kf:∀b o,f.get? b=some o->b∈frs X.stack->∃R,h3.get? b=some { o with slots:=R }:=λb o q h=>by
   obtain⟨_,o',i,B⟩:=J.stack.mem h;have i:f.get? b=some o':=i;rw[q]at i;cases i;exact R b o q B
  have S:HOk X.prog X.w (upd H' a (.ext (rF a (.ref C)))) h3:=λb o e=>by
   by_cases h:b=a
   .subst h;rw[bC]at e;cases e;refine⟨⟨F,G,u1,u2,u3⟩,⟨_,u1⟩,λh1 h2 ⟨P,v1,Z,N,M⟩ k=>⟨P,v1,k _ Z,N,M⟩⟩
   .rw[aY h]at e;refine(J.hok b o e).stay (λc u hc q=>?_) (λc qc=>?_) λc xs qc=>?_
    .have hcs:∃U,H' c=some U:=by
      rcases hc with rfl|hc
      .exact⟨_,e⟩
      .exact⟨_,hc⟩
     obtain⟨U,p⟩:=hcs;exact L c u q (λz=>by rw[J.stkFree c z]at p;cases p) (tr c U p)
    .rw[aY λz=>by rw[z,fa]at qc;cases qc];exact qc
    .rw[aY λz=>by rw[z,fa]at qc;cases qc];exact qc
  have un3:Un (frs X.stack) [] H (upd H' a (.ext (rF a (.ref C)))) s.heap h3:=by
   refine⟨λb o q n h hx=>L b o (un.keep b o q n h hx) h (nx b o q),λb o q n h hx=>?_,λb o q n hx=>?_,λb o q hx=>?_,λb xs q=>?_,λb o u q=>?_,λb ps q=>?_⟩
   .obtain⟨s1,i⟩:=un.slot b o q n h hx;obtain⟨E,B⟩:=kf b _ i h;exact⟨E,B⟩
   .rw[aY λz=>by rw[z,f0]at q;cases q];exact un.free b o q n hx
   .obtain⟨P,i⟩:=un.there b o q hx;by_cases v:b∈frs X.stack
    .obtain⟨E,B⟩:=kf b _ i v;exact⟨_,B⟩
    .exact⟨P,L b _ i v (nx b o q)⟩
   .have:=un.tups b xs q;rw[aY λz=>by rw[z,fa]at this;cases this];exact this
   .have:=un.frzs b o u q;rw[aY λz=>by rw[z,fa]at this;cases this];exact this
   .obtain⟨m,i⟩:=un.tbls b ps q;exact⟨m,by rw[aY λz=>by rw[z,fa]at i;cases i];exact i⟩
  have hT':H' T'=none:=by
   by_cases v:T'∈frs X.stack
   .exact J.stkFree T' v
   .by_cases hy:T'∈[a,T]
    .rcases Qab.mp hy with z|z
     .rw[z];exact fa
     .have z:T'=T:=by simpa using z
      rw[z];exact K
    .have hn:f.get? T'=none:=by
      cases j:f.get? T' with
      |none=>rfl
      |some o=>rw[hideAll_get _ j λz=>(Qaf.mp z).elim hy v]at u5;cases u5
     exact vJ J hn
  exact q a C H' ⟨h3,g,d,t,s.os⟩ rfl fa hq (I.call (h':=h3) (g':=g) (d':=d) (t':=t) (ch:=[]) un3 S y (λb z=>absurd z (by simp))) ⟨F,G,T',oT',ts',u1,u3,u4,u6,u7,u8,u9,hT'⟩
 revert O l r x W Y
 rw[hst];intro O l r x Y W;obtain⟨pe,pv,pT,po,pt,Z,N,M,y4,y5,y6,y7,y8,y9⟩:=Y;have hp0:pv[0]?=some pv[0]!:=by
  have h1:=(QaL.mp y4).1;rw[Array.getElem?_eq_getElem (show 0<pv.size by omega),getElem!_pos pv 0 (show 0<pv.size by omega)]
 refine wpAny_looks_onW (s:=⟨f,g,d,t,s.os⟩) (a0:=pv[0]!) x hf ⟨l,r,O,pe,pv,pT,po,pt,Z,⟨N,hp0⟩,M,y4,y5,y6,y7,y8,y9⟩ λh4 hH sm4=>?_;refine wpAny_landsW hH λh5 hF5 sm5=>?_;obtain⟨w1,w2,w3,xe,xv,xT,xo,xt,v1,v2,v3⟩:=hF5;exact W h5 ⟨w1,w3,⟨xe,xv,xT,xo,xt,v1,v2.1,v3⟩,sm4.trans sm5⟩
end
def noX:Res->Res
 | .ret (.exc _)=>.bad
 |r=>r
def V8(K:Frag)(P:Hp)(E:XK)(D:yP)(r:Res):Prop:=match r with
 | .ret (.exc C)=>∀H,Same P H->E (.ref C) none H
 |r=>Post K P D r
def xR{K:Frag}{P:Hp}{E:XK}{D:yP}{r:Res}(h:V8 K P E D (noX r)):Post K P D r:=by
 cases r with
 |ret d=>cases d<;>first|exact h|exact h.elim
 |_=>exact h
def ZcJ(K:Frag)(E:XK)(g:En->Res):TS:=λD σ H=>∃P ac,SInv K P H σ ac/\V8 K P E D (g ac)
def QSx(X:Cx)(E:XK)(st:Stmt)(g:En->Res):Prop:=PS X st (ZcJ X.K E g)
def Q4(X:Cx)(E:XK)(st:Ab Stmt)(g:En->Res):Prop:=PSs X st (ZcJ X.K E g)
section
variable {X:Cx}{E:XK}{st:Stmt}{sts sa sb:Ab Stmt}{g h:En->Res}{ai:Pos}
theorem PS.nox(h:PS X.nox st t):PS X st t:=λaa s σ H D I hw =>
 Rc (h aa s σ H D (I.wish _) hw) (λ_ _ q=>q.unwish) λ_ _ z=>False.elim z
def Z3W(h:QS X.nox st g):QSx X E st (λac=>noX (g ac)):=λaa s σ H D I ⟨P,ac,IS,q⟩=>PS.nox h aa s σ H D I ⟨P,ac,IS,xR q⟩
def bM(h1:QSx X E st g):Q4 X E [st] g:=λaa s σ H D I q=>sM h1 aa s σ H D I q
def aR(h1:QSx X E st g)(h2:Q4 X E sts h):Q4 X E (st::sts) (aJ g h):=λaa s σ H D I ⟨P,ac,IS,q⟩=>mK h1 h2 aa s σ H D I (by
 refine⟨P,ac,IS,?_⟩;unfold aJ at q;cases a:g ac with
 |next env'=>rw[a]at q;exact λσ' H' I'=>⟨P,env',I',q⟩
 |ret d=>rw[a]at q;cases d<;>exact q
 |brk _=>rw[a]at q;exact q
 |cont _=>rw[a]at q;exact q
 |bad=>rw[a]at q;exact q)
def cJ:Q4 X E [] aX:=λaa s σ H D I ⟨P,ac,IS,q⟩=>B2 aa s σ H D I (q σ H IS)
def dR(hc:QT X.nox c c')(b:Q4 X E sa g)(a:Q4 X E sb h):QSx X E (.If c sa sb ai) (rIf c' g h):=λaa s σ H D I ⟨P,ac,IS,q⟩=>Z4b (PT.nox hc) b a aa s σ H D I (by
 obtain⟨F,hF⟩:=IS.ex;unfold rIf at q;split at q
 .rename_i h1;exact⟨ac,F,true,hF.ok,h1,λH' s=>yC ⟨P,ac,IS.grow s,q⟩⟩
 .rename_i h1;exact⟨ac,F,false,hF.ok,h1,λH' s=>zX ⟨P,ac,IS.grow s,q⟩⟩
 .exact q.elim)
def nR(C:Af):En->Res:=λ_=>.ret (.exc C)
def cT{P:Aj}{w:Ak}{K:Frag}{mg:Str->Aa Ad}{ad:Ah}{N:Ab Str}{ah:Str}{ag:Scope}{f:Af}{cd:Ad}{A:Ai}{af:Ab Env}{s0:Ac}{H0:Hp}{E:XK}{C:Af}{x z:Str}{np cpos ai b:Pos}{j:Nat}
  (O:ExC ad C) (a:Gl (cxE P w K mg ad N ah ag f cd A af s0 H0 E) x) (h:mg x=some (.ref C)) (hd:nDb x:=by decide) :
  QSx (cxE P w K mg ad N ah ag f cd A af s0 H0 E) E (.Raise (some (.Call (.Name x np) [.Constant (.str z) j b] [] cpos)) none ai) (nR C):=λaa s σ H D I ⟨P',ac,IS,q⟩ =>
 Z7e (X:=cxE P w K mg ad N ah ag f cd A af s0 H0 E) (R:=λH=>E (.ref C) none H) O a h rfl (pa_cons Z7n pa_nil rfl) Z6n rfl rfl hd aa s σ H D I ⟨(show 1<=sizeLine by decide),q H IS.same⟩
end
def spE(K:Frag)(n:Nat)(f:Ab D->Aa D):Sp:=λvs H Q E=>∃ds d fp,ds.length=n/\Reps K false H ds vs fp/\f ds=some d /\
 match d with
 | .exc C=>∀H',Same H H'->E (.ref C) none H'
 |d=>∀v H' fp',Same H H'->Rep K true H' d v fp'->(∀b∈fp',H b=none)->fp'.Nodup->Q v H'
def Z8N{K:Frag}{n:Nat}{f:Ab D->Aa D}{vs:Ab V}{H:Hp}{Q:VK}{E:XK}(h:spE K n f vs H Q E):vs.length=n:=by
 obtain⟨ds,d,fp,h1,h2,_⟩:=h;rw[h2.length,h1]
def FunD.okE{P:Aj}{w:Ak}{K:Frag}{mg:Str->Aa Ad}{ad:Ah}{x ah:Str}{st:Stmt}{f:Af}{fd:FuncData}{N ps:Ab Str}{k n L:Nat}{g:En->Res}(F:FunD K x ah st f fd)(S:fL N ps (aS st))(p:ps.length=n)(r:N.length=L)
  (j:∀(a:Ad) (A:Ai) (af:Ab Env) (s:Ac) (H:Hp) (E:XK),Room k (A.deeper (envOfC ah (aS st) s.heap.objs.size f a))->Q4 (cxE P w K mg ad N ah (aS st) f a A af s H E) E (cN st) g) :
  jK P w K mg ad (CXe P w) (k+1) f fd ps (spE K n (cA L g)):=by
 subst p r;obtain⟨v,y,B,kV,t,C,an,a,ct,u,rfl,o,l⟩:=F.ex;refine Z1V o l S (λvs H Q E h=>Z8N h) λA af s H vs Q E hr hsp=>?_;obtain⟨ds,d,fp,h1,h2,h3,q⟩:=hsp;refine⟨_,j a A af s H E hr,H,eU N.length ds,oX h2,?_⟩;unfold cA at h3;cases i:g (eU N.length ds) with
 |ret d' =>
  rw[i]at h3;cases(h3);cases d<;>exact q
 |next env' =>
  rw[i]at h3;cases h3;exact λσ' H' I'=>q .non H' [] I'.same pB (λb j=>(by cases j)) QaD
 |brk _=>rw[i]at h3;cases h3
 |cont _=>rw[i]at h3;cases h3
 |bad=>rw[i]at h3;cases h3
structure dE(P:Program)(w:World)(K:Frag)(mg:Str->Option Value)(base:Heap)(x:Str)(dds:List D)(k n:Nat)(F':List D->Option D):Prop where
 ex:∃fA fd ps dvs ds,jK P w K mg base (CXe P w) k fA fd ps (spE K n F')/\mg x=some (.ref fA)/\keepIn K (.ref fA)=true/\Binds K fd ps ds/\Vals dvs ds/\∀H,Reps K false H dds dvs []
section
variable {X:Cx}{aa:Ab (Af×Obj)}{σ:L2.St}{H:Hp}{s:Ac}{e:Ag}
def Z5F(h:o.data=.fields ts)(h1:ts[i]?=some x):Obj.mapFields (·.setIfInBounds i x) o=o:=by
 have e:ts.setIfInBounds i x=ts:=by
  apply Array.ext_getElem?;intro j;rw[Array.getElem?_setIfInBounds];by_cases a:i=j
  .subst a;obtain⟨h2,h3⟩:=QaL.mp h1;simp[h2,h3]
  .simp[a]
 obtain⟨c,d,b,f⟩:=o;simp only at h;subst h;simp[Obj.mapFields,e]
def Z5C(I:Inv X aa σ H s)(F:X.N.Nodup)(r:X.N[k]?=some n)(i:X.env.scope.names.lookup n=some .local)(h:∀s',Inv X aa (σ.set k none) H s'->Q () s') :
  wpAny M A (do bindName X.env n .none;unbindBehindTheSuite X.env n ai) Q E s:=by
 have t:(X.env.scope.kind == .class||(X.env.scope.kind == .module&&X.env.locals != X.env.globals))=false:=by rw[I.ok.kind];rfl
 have f:k<σ.length:=by rw[I.len];exact(Qah.mp r).1
 refine Ra (wpAny_bindName (oA I F r (.inl i) (v:=.non) (u:=.none) rfl (λs1 I1=>?_) (.inr i)));obtain⟨m,C,G⟩:=id I1.loc;obtain⟨u,W,P⟩:=G k n .non r (QaC f) (.inl i);have L:m n=some u:=by
  rcases P with⟨_,e⟩|⟨z,_⟩
  .exact e
  .have l:X.env.scope.names.lookup n=some .cell\/X.env.scope.names.lookup n=some .free:=z;rw[i]at l;rcases l with l|l<;>cases l
 unfold unbindBehindTheSuite;refine wpAny_onRaise (wpAny_unbindName_local i C L t λh' u' hn' hs=>?_);have cne:=I1.cne;obtain⟨Y,_,_,U,_⟩:=id C;have J:HOk X.prog X.w H h':=λb ob e=>by
  refine(I1.hok b ob e).stay (λc w' hc q=>(hs.2 c ?_).trans q) (λ_ q=>q) λ_ _ q=>q;rintro rfl;rcases hc with rfl|hc
  .rw[I1.free]at e;cases e
  .rw[I1.free]at hc;cases hc
 refine h _ ⟨I1.ok,I1.os,I1.bare,⟨λb o e n hb hx=>?_,λb o e n hb hx=>?_,I1.base.free,λb o e hx=>?_,I1.base.tups,I1.base.frzs,I1.base.tbls⟩,⟨_,hn',λj y v' a e2 e3=>?_⟩,λy c e=>?_,I1.free,I1.freeC,λp hp=>?_,J,by simpa using I.len⟩
 .exact(hs.2 b (QaA (Qaw (Qal e) I1.ok.above))).trans (I1.base.keep b o e n hb hx)
 .obtain⟨K,a⟩:=I1.base.slot b o e n hb hx;exact⟨K,(hs.2 b (QaA (Qaw (Qal e) I1.ok.above))).trans a⟩
 .obtain⟨o',a⟩:=I1.base.there b o e hx;exact⟨o',(hs.2 b (QaA (Qaw (Qal e) I1.ok.above))).trans a⟩
 .have x:j≠k:=by
   rintro rfl;rw[QaC f]at e2;cases e2
  rw[Qao (Ne.symm x)]at e2;obtain⟨S,R,T⟩:=G j y v' a (by rw[Qao (Ne.symm x)];exact e2) e3;refine⟨S,R,?_⟩;rcases T with⟨z,e⟩|⟨z,c,e,w⟩
  .refine .inl ⟨z,?_⟩;have:y≠n:=λe=>x (J3 F a (e ▸ r));simp[this,e]
  .exact .inr ⟨z,c,e,w.sameBut hs (cne y c e)⟩
 .obtain⟨w',z⟩:=I1.cell y c e;exact⟨w',z.sameBut hs (cne y c e)⟩
 .obtain⟨e,n,B,O,d⟩:=I1.pin p hp;exact⟨(hs.2 p.1 B).trans e,n,B,O,d⟩
end
end PD
namespace PySem.W
open PySem PySem.Spec PySem.Calls PyProof.Rows Builtin Builtin.ObjectAttr Builtin.Getset_descriptor
structure ExAt(h:Heap)(x:Addr)(ox:Obj)(C:Addr):Prop where
 at_:h.get? x=some ox
 cls:ox.cls=.ref C
section
variable {prog:Aj}{w:Ak}{A:Ai}{E:Ad->Ac->Prop}{s:Ac}{K:Frag}{x C:Af}{ox:Obj}{name:Str}{R:Result->Ac->Prop}
def ExAt.type(I:ExAt h x ox C):Looks M h (typeOf (.ref x)) (.ref C):=I.cls ▸ (Looks.ld I.at_).andThen .now
def Z3w(X:K.In s.heap)(I:ExAt s.heap x ox C)(a:mroIn K C (.type "object")=some true)
  (h:R (.ok (.ret (.ref C))) s):codeAny (model prog w) A (.call (.builtin "getset_descriptor.__get__") ⟨[.builtin "object.__class__",.ref x,tp],[]⟩) R s:=by
 obtain⟨f,g,b,t,os⟩:=s;have j:=I.type (M:=model prog w);have i:=looks_mroIn (M:=model prog w) X a;refine codeAny_call_builtin KF.slot_gs.plain KF.entry_gs (KF.slot_gs.check _ _ _ _ _ _ _ _ KF.type_class (KF.args_gs _ _ _) ?_);unfold Builtin.«getset_descriptor.__get__» descrGet;rw[dga_obj];refine Ra (Rb ?_);unfold descrGetter descrCheckInstance descrNameAndClass isInstance;simp only[KF.owner_class]
 repeat lk
 refine⟨Code.quiet_builtin _ (by decide +kernel),codeAny_builtin KF.entry_class ?_⟩;unfold Builtin.«object.__class__» shownTypeOf
 repeat lk
 exact h
def Zdq(X:K.In h)(f:findIn K (.ref C) name=some (some a))(n:specialIn K a "__get__" = some (some g))(l:takesIn K a=some true):Looks M h (find (.ref x) (.ref C) name) (.bind g a):=by
 have j:=looks_findIn (M:=M) X f;have b:Looks M h (getOf (some a)) (some g):=looks_specialIn X n;have i:=looks_takesIn (M:=M) X l;exact j.andThen (b.andThen ((show Looks M h (dataDescriptor? (some a) (some g)) (some (g,a)) from i.andThen .now).andThen (Looks.tag .now)))
def Z0A:entryFor table "BaseException.__getattribute__" = some Builtin.«object.__getattribute__» :=
 entryFor_alias (id' := "object.__getattribute__") (by kernel_rfl) (by first|rfl|decide +kernel) (by decide +kernel) (by kernel_rfl)
def slot_exc_ga:Slot "BaseException" "__getattribute__" "BaseException.__getattribute__" :=
 .of (owner := "BaseException") (n := "__getattribute__") (by rw[typeLookup_type,builtinLookup_eq_fast];kernel_rfl) (by decide +kernel) (by decide +kernel) (by decide +kernel)
  (by first|exact .inl (by decide +kernel)|exact .inr (by decide +kernel)) (by rw[isSubtype_type];kernel_rfl)
structure ExcK(K:Frag)(C:Addr):Prop where
 ga:findIn K (.ref C) "__getattribute__" = some (some (.builtin "BaseException.__getattribute__"))
 gn:findIn K (.ref C) "__getattr__" = some none
 cl:findIn K (.ref C) "__class__" = some (some (.builtin "object.__class__"))
 cg:specialIn K (.builtin "object.__class__") "__get__" = some (some (.builtin "getset_descriptor.__get__"))
 ct:takesIn K (.builtin "object.__class__")=some true
 mo:mroIn K C (.type "object")=some true
 mb:mroIn K C (.type "BaseException")=some true
 ic:(clsIn K C).isSome=true
def Z0J(X:K.In s.heap)(I:ExAt s.heap x ox C)(k:ExcK K C)(h:Q (.done (.ret (.ref C))) s) :
  wpAny (model prog w) A (Builtin.«object.__getattribute__» ⟨[.ref x,.str "__class__" tk],[]⟩) Q E s:=by
 obtain⟨f,g,d,t,os⟩:=s;have b:=I.type (M:=model prog w);have a:=Zdq (M:=model prog w) (x:=x) X k.cl k.cg k.ct;refine Ra (Rb (Ra (Rb (Ra (b.at (Ra (a.at ?_)))))));show wpAny _ _ (bindTo _ _ _ _) _ _ _;unfold bindTo;refine Ra (wpAny_holding (wpAny_call (Z3w X I k.mo ?_)));exact Rb h
def Zci(X:K.In s.heap)(I:ExAt s.heap x ox C)(k:ExcK K C)(i:argsOk "BaseException.__getattribute__" ⟨[.ref x,nm],[]⟩)(h:Q () s):wpAny M A (checkBuiltinCall "BaseException.__getattribute__" ⟨[.ref x,nm],[]⟩) Q E s:=by
 obtain⟨l,g,d,t,os⟩:=s;have a:splitId "BaseException.__getattribute__" = some ("BaseException","__getattribute__"):=by decide +kernel
 have b:(Manifest.find? "BaseException").bind (·.attrs.lookup "__getattribute__")=some .slot:=by decide +kernel
 have j:builtinKind "BaseException.__getattribute__" = (Manifest.find? "BaseException").bind (·.attrs.lookup "__getattribute__"):=by simp only[builtinKind,a]
 have LI:Looks M l (isInstance (.ref x) (.type "BaseException")) true:=(I.type (M:=M)).andThen (looks_mroIn X k.mb);simp only[checkBuiltinCall,j,b,a];refine Ra (LI.at ?_);simp only[Bool.not_true,Qbd,Rl];cases f:Manifest.signature? "BaseException.__getattribute__" with
 |none=>exact Rb h
 |some sig =>
  simp only[argsOk,f]at i;have h2:Bind.checkArgs "BaseException.__getattribute__" sig ⟨[.ref x,nm],[]⟩=pure ():=i;show wpAny M A (Bind.checkArgs "BaseException.__getattribute__" sig ⟨[.ref x,nm],[]⟩) Q E _;rw[h2];exact Rb h
def Z2Y:Manifest.owners.lookup (String.ofList ['n','o','i','t','p','e','c','x','E','e','s','a','B'].reverse)=some Manifest.sig_BaseException:=by kernel_rfl
def Z2o(a b:Ad):argsOk "BaseException.__getattribute__" ⟨[a,b],[]⟩:=by
 unfold argsOk;rw[signature?_of (id := "BaseException.__getattribute__") (n:=['_','_','e','t','u','b','i','r','t','t','a','t','e','g','_','_']) (o:=['n','o','i','t','p','e','c','x','E','e','s','a','B']) (by kernel_rfl) Z2Y];kernel_rfl
def Z2c(X:K.In s.heap)(I:ExAt s.heap x ox C)(k:ExcK K C)(h:Q (some (.ref C)) { s with toks:=s.toks+1 }):wpAny (model prog w) A (getAttr? (.ref x) "__class__") Q E s:=by
 obtain⟨i,g,d,t,os⟩:=s;have f:=I.type (M:=model prog w);have b:=looks_findIn (M:=model prog w) X k.ga;have a:=looks_findIn (M:=model prog w) X k.gn;unfold getAttr? getAttrBy? getAttrBy;refine Ra (wpAny_mkText (Ra (wpAny_attempt (wpAny_holding (Ra (f.at (Ra (b.at ?_))))))));show wpAny _ _ (getAttrByItsOwn _ _ _ _ _ _) _ _ _;unfold getAttrByItsOwn hookBefore;refine Ra (a.at ?_);refine Ra (wpAny_attempt (wpAny_holding ?_));show wpAny _ _ (boundAndCalled _ _ _) _ _ _;unfold boundAndCalled;rw[slot_exc_ga.bind];refine Ra (Rb ?_);refine wpAny_call (codeAny_call_builtin slot_exc_ga.plain Z0A (Zci X I k (Z2o _ _) (Z0J X I k ?_)));exact handed_on rfl (Rb h)
def kitx_exc(k:ExcK K C):KitX K (.ref x) (.ref C) (λh=>ExAt h x ox C) where
 ty:=λ_ _ _ I=>I.type
 it:=λ_ _ X _=>by
  have hc:=k.ic;unfold clsIn at hc;split at hc
  .rename_i c' d' b f a;intro l j i s' k q;unfold isType loadHead;exact Ra (wpAny_loadPart (k _ _ (X _ _ a)) (Rb q))
  .cases hc
 ne:=λh tp dd ak n sl X htp=>by
  refine Bool.eq_false_iff.mpr λq=>?_;have e:C=tp:=Value.ref.inj (beq_iff_eq.mp q);subst e;have hc:=k.ic;unfold clsIn at hc;split at hc
  .rename_i c' d' b f a;have z:=(X _ _ a).symm.trans htp;cases z
  .cases hc
 ca:=λX I q=>Z2c X I k q
end
end PySem.W
namespace PD
open PySem PySem.Spec PyProof.Rows L2
def Z5W(C:Af)(b:Bool)(fa:En->Aa D):En->Aa D:=λac=>match fa ac with
 |some (.exc C')=>if C'=C then some (.bl b) else none
 |_=>none
section
variable {X:Cx}{m m1:Bool}{rs rs1:Ab Nat}{a:Ag}{fa:En->Aa D}{p p2 ai:Pos}{cn:Str}{C CC:Af}{b:Bool}
def Z7K(T:PySem.W.ExcK X.K C)(I:Inv X aa σ H s)(hq:H q=some (.ext (rF q (.ref C))))(i:PySem.W.kitOne X.K (.ref C) c=some b)(h:∀tk,Q (.bool b) { s with toks:=tk }) :
  wpAny (model X.prog X.w) A (call (.builtin "isinstance") [.ref q,c]) Q E s:=by
 obtain⟨⟨f,l,a,j,n⟩,_⟩:=(show ObjOk X.prog X.w H s.heap q (.ext (rF q (.ref C))) from I.hok q _ hq)
 exact QaQ (PySem.W.kitx_exc (ox:=f) T) I.kIn ⟨a,j⟩ i (λz=>nomatch z) h
def U6{K:Frag}{σ:L2.St}{H:Hp}{Q:VK}(h:tD K m rs (Z5W C b fa) σ H Q):tD K m1 rs1 fa σ H λv H'=>∃q,v=.ref q/\H' q=some (.ext (rF q (.ref C)))/\∀H'',Same H' H''->Q (.bl b) H'':=by
 obtain⟨ac,F,d,ok,e,q⟩:=h;unfold Z5W at e;split at e
 .rename_i j h1;split at e
  .rename_i i;subst i;cases e;refine⟨ac,F,_,ok,h1,λv H' fp s r c=>?_⟩;simp only[Rep]at r;obtain⟨a,rfl,_,f⟩:=r;exact⟨a,rfl,f,λH'' s2=>q _ _ _ (s.trans s2) pW .nil⟩
  .cases e
 .cases e
def iP(T:PySem.W.ExcK X.K C)(x:PySem.W.kitOne X.K (.ref C) (.ref CC)=some b)(y:Gl X "isinstance")(E:X.mg "isinstance" = none)(n:QE X m1 rs1 a fa)(l:Gl X cn)(j:X.mg cn=some (.ref CC))(f:nDb cn:=by decide)
  (he:starEach [a,.Name cn p2] X.env=(false,eval a X.env)::starEach [.Name cn p2] X.env:=by rfl) (i:starEach [.Name cn p2] X.env=(false,eval (.Name cn p2) X.env)::starEach [] X.env:=by rfl) (hpl:(backTo ai (starEach [.Name cn p2] X.env)).any (·.1)=false:=by rfl) :
  QE X m rs (.Call (.Name "isinstance" p) [a,.Name cn p2] [] ai) (Z5W C b fa) :=
 .mk (L2.pe_callB (r:=λvs H Q=>∃q,vs=[.ref q,.ref CC]/\H q=some (.ext (rF q (.ref C)))/\Q (.bl b) H)
   (fun aa s σ H xs us Q I w h=>by
    obtain⟨q,rfl,hq,k⟩:=h;obtain⟨u,w',rfl,B,A⟩:=Z3I w;cases (show w'=Value.ref CC from A)
    cases (show u=Value.ref q from B)
    exact Z7K T I hq x λtk=>⟨.bl b,H,I.tok tk,rfl,k⟩)
   y E kX (pa_cons n (pa_cons (sO (v:=.ref CC) l j rfl f) pa_nil i) he) (by decide) (by decide) he hpl) λσ H Q h=>by
  obtain⟨ac,F,d,ok,e,q⟩:=U6 (m1:=m1) (rs1:=rs1) h;refine⟨ac,F,d,ok,e,λv H' fp s r c=>?_⟩;obtain⟨t,rfl,o,k⟩:=q v H' fp s r c;exact⟨t,rfl,o,k H' λ_ _ e=>e⟩
def Z02(T:PySem.W.ExcK X.K C)(A:PySem.W.kitOne X.K (.ref C) (.type c)=some b)(B:Gl X "isinstance")(J:X.mg "isinstance" = none)(t:QE X m1 rs1 a fa)(n:Gl X cn)(l:X.mg cn=none)(f:bootBuiltins cn=some (.type c))(o:cn ≠ "__name__":=by decide)(i:nDb cn:=by decide)
  (he:starEach [a,.Name cn p2] X.env=(false,eval a X.env)::starEach [.Name cn p2] X.env:=by rfl) (j:starEach [.Name cn p2] X.env=(false,eval (.Name cn p2) X.env)::starEach [] X.env:=by rfl) (hpl:(backTo ai (starEach [.Name cn p2] X.env)).any (·.1)=false:=by rfl) :
  QE X m rs (.Call (.Name "isinstance" p) [a,.Name cn p2] [] ai) (Z5W C b fa) :=
 .mk (L2.pe_callB (r:=λvs H Q=>∃q,vs=[.ref q,.ty c]/\H q=some (.ext (rF q (.ref C)))/\Q (.bl b) H)
   (fun aa s σ H xs us Q I w h=>by
    obtain⟨q,rfl,hq,k⟩:=h;obtain⟨u,w',rfl,G,E⟩:=Z3I w;cases (show w'=Value.type c from E)
    cases (show u=Value.ref q from G)
    exact Z7K T I hq A λtk=>⟨.bl b,H,I.tok tk,rfl,k⟩)
   B J kX (pa_cons t (pa_cons (Z4e (v:=.ty c) n l f rfl o i) pa_nil j) he) (by decide) (by decide) he hpl) λσ H Q h=>by
  obtain⟨ac,F,d,ok,e,q⟩:=U6 (m1:=m1) (rs1:=rs1) h;refine⟨ac,F,d,ok,e,λv H' fp s r c=>?_⟩;obtain⟨y,rfl,x,k⟩:=q v H' fp s r c;exact⟨y,rfl,x,k H' λ_ _ e=>e⟩
end
def qQ(g:En->Res):En->Res:=λac=>noX (g ac)
section
variable {X:Cx}{E:XK}{st:Stmt}{sts:Ab Stmt}{g:En->Res}{i:Nat}{f:En->Aa D}
theorem PSs.nox(h:PSs X.nox sts t):PSs X sts t:=λaa s σ H D I hw =>
 Rc (h aa s σ H D (I.wish _) hw) (λ_ _ q=>q.unwish) λ_ _ z=>False.elim z
def fM(h:QSs X.nox sts g):Q4 X E sts (qQ g):=λaa s σ H D I ⟨P,ac,IS,q⟩=>PSs.nox h aa s σ H D I ⟨P,ac,IS,xR q⟩
def Z9S(ac:En):noX (bJ i f ac)=bJ i f ac:=by unfold bJ;split<;>rfl
def jB(h:QS X.nox st (bJ i f)):QSx X E st (bJ i f):=by
 have z:=Z3W (E:=E) h;simp only[Z9S]at z;exact z
end
section
variable {K:Frag}{C CC:Af}{b:Bool}
def K1:PySem.W.kitOne K (.ref C) (.ref C)=some true:=by unfold PySem.W.kitOne;simp
def Z9Z(hc:PySem.W.clsIn K CC=some cd)(f:PySem.W.typeIn K (.ref CC)=some (.type "type"))(hs:PySem.W.subIn K (.ref C) (.ref CC)=some b)(a:(C==CC)=false):PySem.W.kitOne K (.ref C) (.ref CC)=some b:=by
 have h1:(Value.ref C==Value.ref CC)=false:=Bool.eq_false_iff.mpr λq=>by
  have e:C=CC:=Value.ref.inj (beq_iff_eq.mp q);rw[e]at a;simp at a
 unfold PySem.W.kitOne PySem.W.kitCls;rw[h1];simp[hc,f,hs]
def Za0(a:PySem.W.kitMeta T=true)(hs:PySem.W.subIn K (.ref C) (.type T)=some b):PySem.W.kitOne K (.ref C) (.type T)=some b:=by
 have h1:(Value.ref C==Value.type T)=false:=Bool.eq_false_iff.mpr λq=>by cases beq_iff_eq.mp q
 unfold PySem.W.kitOne PySem.W.kitCls;rw[h1];simp[a,hs]
def ZaQ(X:K.In h)(l:K.lookup N=some ⟨c,d,.dict es n,sl⟩)(b:es.toList.all (λe=>match e.key with | .str _ _=>true|_=>false)=true)(hi:nsIn K N "__init__" = some none) :
  ∃m,h.Ns N m/\m "__init__" = none:=by
 have a:=X _ _ l;have f:h.Ns N (h.nsMap N):=.of_isNs (by unfold Heap.isNs;rw[a];rw[Array.all_toList]at b;exact b);refine⟨_,f,?_⟩;obtain⟨o,p,ep,i,hd,_,j⟩:=f;rw[i]at a;cases a;cases hd;rw[<- j];unfold nsIn at hi;rw[l]at hi;dsimp only at hi;split at hi
 .cases hi
 .rename_i he;unfold nsFind findBy;rw[<- Array.find?_toList,he];rfl
def Zcf
  {c c1 c2:Ad}{d d1 d2:Aa Af}{es es1:Ae DictEntry}{n n1:Nat}{sl sl1 sl2:Ae (Aa Ad)}{nm1 q1:Str}{bs1 mro1:Ab Ad}{hd1:Bool}{sn1:Ab Str}{sub1:Ab Ad}{ab1:Bool}{col1:Aa Bool}{del1:Bool}
  (l:K.lookup C=some (excClassObj nm q C N bs [.ref S,.type "ValueError",.type "Exception",.type "BaseException",.type "object"] hdct sn sub ab col dd k0 k1 k2 k3 k5 "ValueError.__new__"))
  (lN:K.lookup N=some ⟨c,d,.dict es n,sl⟩) (hk:es.toList.all (λe=>match e.key with | .str _ _=>true|_=>false)=true) (hi:nsIn K N "__init__" = some none)
  (lS:K.lookup S=some ⟨c2,d2,.cls ⟨nm1,bs1,mro1,NS,q1,hd1,sn1,sub1,ab1,col1,del1⟩,sl2⟩) (lT:K.lookup NS=some ⟨c1,d1,.dict es1 n1,sl1⟩) (hk1:es1.toList.all (λe=>match e.key with | .str _ _=>true|_=>false)=true) (hi1:nsIn K NS "__init__" = some none) :
  ∀ad:Ah,K.In ad->ExC ad C:=λad X=>by
 obtain⟨m,b,f⟩:=ZaQ X lN hk hi;obtain⟨m1,a,h1⟩:=ZaQ X lT hk1 hi1;exact⟨⟨[.type "ValueError",.type "Exception",.type "BaseException",.type "object"],_,N,nm,q,bs,hdct,sn,sub,ab,col,dd,k0,k1,k2,k3,k5,_,m,"ValueError",_,_,"ValueError",_,_,X _ _ l,b,f,.own (X _ _ lS) a h1 .base,PySem.F.excBase_ValueError,PySem.F.excBase_ValueError,by decide +kernel⟩⟩
def Zch(l:K.lookup C=some ⟨c,d,.cls cd,sl⟩):(PySem.W.clsIn K C).isSome=true:=by
 unfold PySem.W.clsIn;rw[l];rfl
end
def fNX(f:En->Aa D):En->Aa D:=λac=>match f ac with
 |some (.exc _)=>none
 |r=>r
def tXE(K:Frag)(E:XK)(pre:En->Bool)(f:En->Aa D):TE:=λσ H _=>∃ac F C,EnvOk K H σ ac F/\f ac=some (.exc C)/\pre ac=true/\∀H',Same H H'->E (.ref C) none H'
def dT:En->Bool:=λ_=>true
def tM(f:En->Aa D)(p:En->Bool):En->Bool:=λac=>(f ac).isSome&&p ac
def Z7g(i:Nat):En->Bool:=λac=>match ac[i]? with
 |some (some (true,.lst _))=>true
 |_=>false
def rOr(pre:En->Bool)(f:En->Aa D)(g:En->Res):En->Res:=λac=>match f ac with
 |some (.exc C)=>if pre ac=true then .ret (.exc C) else .bad
 |_=>noX (g ac)
def PE.mono(h:PE X e t)(hi:∀σ H Q,t' σ H Q->t σ H Q):PE X e t':=λaa s σ H Q I q=>h aa s σ H Q I (hi σ H Q q)
section
variable {X:Cx}{E:XK}{st:Stmt}{g:En->Res}{f:En->Aa D}{t:TS}
def gP(j:QS X st g)(i:PS X st t)(l:∀D σ H Q,tXE X.K E pre f σ H Q->t D σ H):QSx X E st (rOr pre f g):=λaa s σ H D I ⟨P,ac,IS,q⟩=>by
 obtain⟨F,hF⟩:=IS.ex;by_cases a:∃C,f ac=some (.exc C)
 .obtain⟨C,a⟩:=a;by_cases hp:pre ac=true
  .have b:V8 X.K P E D (.ret (.exc C)):=by
    have e:rOr pre f g ac=.ret (.exc C):=by unfold rOr;rw[a];exact if_pos hp
    rw[e]at q;exact q
   exact i aa s σ H D I (l D σ H (λ_ _=>True) ⟨ac,F,C,hF.ok,a,hp,λH' s'=>b H' (IS.same.trans s')⟩)
  .have e:rOr pre f g ac=.bad:=by unfold rOr;rw[a];exact if_neg hp
   rw[e]at q;exact q.elim
 .have b:V8 X.K P E D (noX (g ac)):=by
   have e:rOr pre f g ac=noX (g ac):=by
    unfold rOr;split
    .rename_i C h;exact absurd ⟨C,h⟩ a
    .rfl
   rw[e]at q;exact q
  exact j aa s σ H D I ⟨P,ac,IS,xR b⟩
end
section
variable {P:Aj}{w:Ak}{K:Frag}{mg:Str->Aa Ad}{ad:Ah}{N:Ab Str}{ah:Str}{ag:Scope}{f:Af}{cd:Ad}{A:Ai}{af:Ab Env}{s0:Ac}{H0:Hp}{E:XK}{m1:Bool}{rs1:Ab Nat}{e:Ag}{es:Ab Ag}{fs:En->Aa (Ab D)}{p ai:Pos}
def dN(c:dE P w K mg ad x dds k n F')(v:Room k (cxE P w K mg ad N ah ag f cd A af s0 H0 E).A)(a:NArgs na fs)(l:na+dds.length=n)(j:QA (cxE P w K mg ad N ah ag f cd A af s0 H0 E) m1 rs1 (e::es) fs)(u:Gl (cxE P w K mg ad N ah ag f cd A af s0 H0 E) x:=by rfl)
  (b:nDb x:=by decide) (he:starEach (e::es) (cxE P w K mg ad N ah ag f cd A af s0 H0 E).env=(false,eval e (cxE P w K mg ad N ah ag f cd A af s0 H0 E).env)::starEach es (cxE P w K mg ad N ah ag f cd A af s0 H0 E).env:=by rfl) (hpl:(backTo ai (starEach es (cxE P w K mg ad N ah ag f cd A af s0 H0 E).env)).any (·.1)=false:=by rfl) :
  PE (cxE P w K mg ad N ah ag f cd A af s0 H0 E) (.Call (.Name x p) (e::es) [] ai) (tXE K E pre (aL F' dds fs)):=by
 obtain⟨B,fd,ps,dvs,ds,G,y,t,o,hd,i⟩:=c.ex;refine PE.mono (L2.pe_call (X:=cxE P w K mg ad N ah ag f cd A af s0 H0 E) G v u y t o hd Z8y j b he hpl) λσ H Q ⟨ac,F,C,ok,h,hp,q⟩=>?_;unfold aL at h;cases h1:fs ac with
 |none=>rw[h1]at h;cases h
 |some xs =>
  rw[h1]at h;exact⟨ac,F,xs,ok,h1,λvs H' fp s r c=>⟨xs++dds,.exc C,fp++[],by rw[Qaj,a.len ac xs h1];exact l,(Reps.weak _ _ _ r).append (i H'),h,λH2 s2=>q H2 (s.trans s2)⟩⟩
end
section
variable {X:Cx}{E:XK}{rs:Ab Nat}{iter tg:Ag}{src:En->Aa (Ab D)}{t:D->En->Aa En}{body:Ab Stmt}{g:En->Res}{ai:Pos}
open Classical in
def B0(hc:X.calm=true)(hp:PassesOwn (model X.prog X.w) X.A X.env X.xe)(hi:QI X tg rs iter src)(p:QG X tg t)(a:Q4 X E body g)(hs:∀x,foldedSetIterable iter X.env x=pure x:=by intro _;rfl) :
  QSx X E (.For tg iter body [] ai) (eZ rs src t g):=λaa s σ H D IV h=>Z2W hp hc hi p a hs aa s σ H D IV (by
 obtain⟨P,ac,I,q⟩:=h;obtain⟨F,hF⟩:=I.ex;unfold eZ at q;split at q
 .rename_i ds h1;refine⟨ac,nrm ac F,ds,hF.nrm.ok,h1,λJ H1 fp s1 gv dm cd=>?_⟩;have ap:=D5 hF cd
  let O:Af->Prop:=λb=>∃j d,(fz rs ac)[j]?=some (some (true,d))/\b∈nrm ac F j
  let l:Hp:=λb=>if O b then none else H1 b
  have y:EnvS X.K P H1 σ (fz rs ac) (nrm ac F):=(hF.nrm.fz rs).grow s1;have B:∀b,O b->(∀xs,H1 b≠some (.tup xs))/\∀o u,H1 b≠some (.frz o u):=λb ⟨j,d,e,a⟩=>by
   obtain⟨v,hv,r⟩:=y.ok j true d e;exact Rep.kind _ _ _ r b a
  have pn:∀{b:Af},¬O b->l b=H1 b:=λhn=>if_neg hn;have Z:∀{b:Af},O b->l b=none:=λf=>if_pos f;have sP1:Same l H1:=λb o e=>by
   by_cases f:O b
   .rw[Z f]at e;cases e
   .rw[pn f]at e;exact e
  have G:Same P l:=λb o e=>by
   have f:¬O b:=λ⟨j,d,Q,a⟩=>by
    have:=(y.own j d Q).2.1 b a;rw[this]at e;cases e
   rw[pn f];exact s1 _ _ (I.same _ _ e)
  have S:∀b∈fp,¬O b:=λb a ⟨j,d,Q,hb'⟩=>ap j d Q b hb' a;have kp:∀{n:Hp},Same l n->Kp fp H1 n:=λU=>⟨λb a o e=>U _ _ (by rw[pn (S b a)];exact e),
   λb xs e=>U _ _ (by rw[pn (λf=>(B b f).1 _ e)];exact e),
   λb o u e=>U _ _ (by rw[pn (λf=>(B b f).2 _ _ e)];exact e)⟩
  refine⟨λi k σ' H'=>i<=ds.length/\k=ds.length-i/\∃env',SInv X.K l H' σ' env'/\V8 X.K P E D (rP t g (ds.drop i) env'),
   ⟨ds.length,QaY _,rfl,fz rs ac,⟨sP1,by rw[Z0u];exact I.len,nrm ac F,y.ok,λj d e=>?_⟩,by simpa using q⟩,?_⟩
  .obtain⟨a1,a2,a3,a4⟩:=y.own j d e;exact⟨a1,λb a=>Z ⟨j,d,e,a⟩,a3,a4⟩
  .rintro i k σ' H' ⟨hi,hk,env',I',q'⟩;have gi:=gv H' (kp I'.same) i;by_cases L:i<ds.length
   .right;have hd:ds[i]?=some ds[i]:=Qam L;obtain⟨go,hy⟩:=gi.1 _ hd;have R:ds.drop i=ds[i]::ds.drop (i+1):=Qbe L;rw[R]at q';refine⟨go,λσ2 n=>∃env2,SInv X.K l n σ2 env2/\V8 X.K P E D (rP t g (ds.drop (i+1)) env2),λσ2 n ⟨env2,M,q2⟩=>⟨ds.length-(i+1),by omega,L,rfl,env2,M,q2⟩,λx n y2=>?_⟩;obtain⟨a5,f2,r2,N⟩:=hy x n y2;unfold rP at q';cases W:t ds[i] env' with
    |none=>rw[W]at q';exact q'.elim
    |some env1 =>
     rw[W]at q';simp only at q';have M:=I'.grow a5;obtain⟨F2,T⟩:=M.ex;refine⟨l,env',F2,_,f2,env1,M.same,M.len,T,r2,λj d' Q b a z=>?_,W,λσ3 I3=>⟨l,env1,I3,?_⟩⟩
     .have h5:=(T.own j d' Q).2.1 b a;rw[pn (S b (N b z))]at h5;obtain⟨o,Y⟩:=dm b (N b z);rw[h5]at Y;cases Y
     .cases p:g env1 with
      |next e2=>rw[p]at q';exact λσ4 H4 I4=>⟨e2,I4,q'⟩
      |cont e2=>rw[p]at q';exact λσ4 H4 I4=>⟨e2,I4,q'⟩
      |brk e2=>rw[p]at q';exact λσ4 H4 I4=>q' σ4 H4 (I4.lower G)
      |ret d =>
       rw[p]at q';cases d with
       |exc C=>exact λH4 s4=>q' H4 (G.trans s4)
       |_=>exact λv H4 fp4 s4 r4 n4 nd4=>q' v H4 fp4 (G.trans s4) r4 (λb a=>G.free (n4 b a)) nd4
      |bad=>rw[p]at q';exact q'.elim
   .left;have a0:i=ds.length:=by omega
    rw[a0,List.drop_length]at q';exact⟨gi.2 (by omega),q' σ' H' (I'.lower G)⟩
 .exact q.elim)
end
def Z4f{P:Aj}{w:Ak}{K:Frag}{mg:Str->Aa Ad}{ad:Ah}{N:Ab Str}{ah:Str}{ag:Scope}{f:Af}{cd:Ad}{A:Ai}{af:Ab Env}{s0:Ac}{H0:Hp}{E:XK} :
  PassesOwn (model P w) (cxE P w K mg ad N ah ag f cd A af s0 H0 E).A (cxE P w K mg ad N ah ag f cd A af s0 H0 E).env (cxE P w K mg ad N ah ag f cd A af s0 H0 E).xe:=PassesOwn.«leaving»
section
variable {X:Cx}{E:XK}{pre:En->Bool}{f fa fb:En->Aa D}{a b e:Ag}{ai p:Pos}{x:Str}{i:Nat}{m1 m2:Bool}{rs1 rs2:Ab Nat}
def ZbR(b:PE X a (tXE X.K E pre f))(hs:xC (.Constant (.int n) k p2):=by exact λ_ _=>rfl):PE X (.Subscript a (.Constant (.int n) k p2) ai) (tXE X.K E pre f):=PE.mono (Z4c Z0j b pe_int hs) λ_ _ _ h=>h
def Z9F(j:QE X true [] a fa)(i:PE X b (tXE X.K E pre f)):PE X (.BinOp a .Add b ai) (tXE X.K E (tM fa pre) f) :=
 PE.mono (L2.pe_op Z31 j i) λσ H Q ⟨ac,F,C,ok,h,hp,q⟩=>by
  unfold tM at hp;rw[Qak]at hp;obtain⟨d,hd⟩:=QaW.mp hp.1;exact⟨ac,F,d,ok,hd,λv H1 fp s r c=>⟨ac,F,C,ok.same s,h,hp.2,λH' s'=>q H' (s.trans s')⟩⟩
def Z9C(j:Gl X "tuple")(b:X.mg "tuple" = none)(i:PE X a (tXE X.K E pre f))(he:starEach [a] X.env=(false,eval a X.env)::starEach [] X.env:=by rfl)(hpl:(backTo ai (starEach [] X.env)).any (·.1)=false:=by rfl) :
  PE X (.Call (.Name "tuple" p) [a] [] ai) (tXE X.K E pre f):=PE.mono (L2.pe_callTy uC j b N6 (pa_cons i pa_nil he) (by decide) (by decide) he hpl) λ_ _ _ h=>h
def Z9D(c:W0 X.prog X.w X.K X.mg X.base x C k n F')(B:Room (k+1) X.A)(o:QE X m1 rs1 a fa)(t:QE X m2 rs2 b fb)(he:PE X e (tXE X.K E pre f))(y:Gl X x:=by rfl)
  (i:nDb x:=by decide) (h1:starEach [a,b,e] X.env=(false,eval a X.env)::starEach [b,e] X.env:=by rfl) (h2:starEach [b,e] X.env=(false,eval b X.env)::starEach [e] X.env:=by rfl) (h3:starEach [e] X.env=(false,eval e X.env)::starEach [] X.env:=by rfl) (hpl:(backTo ai (starEach [b,e] X.env)).any (·.1)=false:=by rfl) :
  PE X (.Call (.Name x p) [a,b,e] [] ai) (tXE X.K E (tM fa (tM fb pre)) f):=by
 obtain⟨J,fd,ps,M,G,I,j⟩:=c.ex;refine PE.mono (L2.pe_make M G B y I j .nil Z1y (pa_cons o (pa_cons t (pa_cons he pa_nil h3) h2) h1) i h1 hpl) λσ H Q ⟨ac,F,C',ok,h,hp,q⟩=>?_;unfold tM at hp;rw[Qak,Qak]at hp;obtain⟨d,hd⟩:=QaW.mp hp.1;obtain⟨u,l⟩:=QaW.mp hp.2.1;exact⟨ac,F,d,ok,hd,λv H1 fp s r c=>⟨ac,F,u,ok.same s,l,λv2 H2 fp2 s2 r2 c2=>⟨ac,F,C',(ok.same s).same s2,h,hp.2.2,λH' s'=>q H' ((s.trans s2).trans s')⟩⟩⟩
def Z9G(he:PE X e (tXE X.K E (Z7g i) f))(y:X.N[i]?=some x:=by rfl)(A:Vis X.env.scope x:=by first|exact Or.inl rfl|exact Or.inr (Or.inl rfl)|exact Or.inr (Or.inr rfl))(hd:nDb x:=by decide)(w:(x==("__classdict__" : Str))=false:=by decide)
  (l:attributeBase (.Name x p) "append" X.env (eval (.Name x p) X.env)=eval (.Name x p) X.env:=by rfl)
  (o:((backTo cpos (starEach [e] X.env)).all (fun x=>!x.1) && (backToKw cpos (keywordEach [] X.env)).all (fun x=>x.1.isSome)
   && decide (([e]:Ab Ag).length+([]:Ab Keyword).length+(if ([]:Ab Keyword).isEmpty then 0 else 1)<30))=true:=by rfl)
  (j:(apos.endLine==cpos.line)=true:=by rfl) (n:starEach [e] X.env=(false,eval e X.env)::starEach [] X.env:=by rfl) (b:(backTo cpos (starEach [] X.env)).any (·.1)=false:=by rfl) :
  PE X (.Call (.Attribute (.Name x p) "append" apos) [e] [] cpos) (tXE X.K E (Z7g i) f) :=
 PE.mono (S6 Qbw PySem.F.slot_list_append PySem.F.type_list_append sR (mL y A hd w) (pa_cons he pa_nil n) l o j n b) λσ H Q ⟨ac,F,C,ok,h,hp,q⟩=>by
  have u:=hp;unfold Z7g at hp;split at hp
  .rename_i ds h2;obtain⟨v,t,r⟩:=ok i true _ h2;obtain⟨a,vs,fp',rfl,hs,_,_⟩:=cB r;exact⟨.ref a,t,.inl ⟨rfl,vs,hs⟩,ac,F,C,ok,h,u,q⟩
  .cases hp
end
section
variable {pre:En->Bool}{f:En->Aa D}{g:En->Res}{ac:En}{C:Af}
def gF(h:f ac=some (.exc C))(hp:pre ac=true):rOr pre f g ac=.ret (.exc C):=by unfold rOr;rw[h];exact if_pos hp
def iD(h:f ac=some d)(hd:∀C,d ≠ .exc C):rOr pre f g ac=noX (g ac):=by
 unfold rOr;split
 .rename_i C h2;rw[h]at h2;cases h2;exact absurd rfl (hd C)
 .rfl
def eJ(h:f ac=some d)(hd:∀C,d ≠ .exc C):fNX f ac=some d:=by
 unfold fNX;split
 .rename_i C h2;rw[h]at h2;cases h2;exact absurd rfl (hd C)
 .exact h
end
def Z8q(K:Frag)(P:Hp)(A:Ab Af)(E:XK)(D:yP)(r:Res)(ws:Ab PD.D):Prop:=match r with
 | .ret (.exc C)=>∀H fw,Hw K H A ws fw->Same P (Hid H fw)->E (.ref C) none H
 |r=>V9 K P A D r ws
def zV(g:En->Ab D->Res×Ab D):En->Ab D->Res×Ab D:=λac ws=>(noX (g ac ws).1,(g ac ws).2)
def G5{K:Frag}{P:Hp}{A:Ab Af}{E:XK}{D:yP}{r:Res}{ws:Ab PD.D}(h:Z8q K P A E D (noX r) ws):V9 K P A D r ws:=by
 cases r with
 |ret d=>cases d<;>first|exact h|exact h.elim
 |_=>exact h
def Z3K(K:Frag)(E:XK)(A:Ab Af)(g:En->Ab D->Res×Ab D):TS:=λD σ H=>∃P ac ws,SInvG K P H σ ac A ws/\Z8q K P A E D (g ac ws).1 (g ac ws).2
def QSxg(X:Cx)(E:XK)(A:Ab Af)(st:Stmt)(g:En->Ab D->Res×Ab D):Prop:=PS X st (Z3K X.K E A g)
def QSsxg(X:Cx)(E:XK)(A:Ab Af)(st:Ab Stmt)(g:En->Ab D->Res×Ab D):Prop:=PSs X st (Z3K X.K E A g)
section
variable {X:Cx}{E:XK}{A:Ab Af}{a:Af}{st:Stmt}{sts sa sb:Ab Stmt}{g h:En->Ab D->Res×Ab D}{ai:Pos}{c:Ag}{b':En->Ab D->Aa (Bool×Ab D)}{f:En->Aa D}{t:TS}
def QSxg.mk(h:PS X st t)(hi:∀D σ H,Z3K X.K E A g D σ H->t D σ H):QSxg X E A st g:=λaa s σ H D I q=>h aa s σ H D I (hi D σ H q)
def QSsxg.mk(h:PSs X sts t)(hi:∀D σ H,Z3K X.K E A g D σ H->t D σ H):QSsxg X E A sts g:=λaa s σ H D I q=>h aa s σ H D I (hi D σ H q)
def Z9(h:QSg X A st g):QSxg X E A st (zV g):=.mk h λD σ H ⟨P,ac,ws,I,q⟩=>⟨P,ac,ws,I,G5 q⟩
def R9:QSsxg X E A [] (λac ws=>(.next ac,ws)):=.mk B2 λD σ H ⟨P,ac,ws,I,q⟩=>q σ H I
def xM(h1:QSxg X E A st g):QSsxg X E A [st] g:=.mk (sM h1) λD σ H q=>q
def mI(h1:QSxg X E A st g)(h2:QSsxg X E A sts h):QSsxg X E A (st::sts) (dC g h):=.mk (mK h1 h2) λD σ H ⟨P,ac,ws,I,q⟩=>by
 refine⟨P,ac,ws,I,?_⟩;unfold dC at q;cases a:g ac ws with
 |mk r ws' =>
  rw[a]at q;cases r with
  |next env'=>exact λσ' H' I'=>⟨P,env',ws',I',q⟩
  |ret d=>cases d<;>exact q
  |brk _=>exact q
  |cont _=>exact q
  |bad=>exact q
def Z3V(hc:QTg X.nox A c b')(b:QSsxg X E A sa g)(a:QSsxg X E A sb h):QSxg X E A (.If c sa sb ai) (qR b' g h):=.mk (Z4b (PT.nox hc) b a) λD σ H ⟨P,ac,ws,I,q⟩=>by
 unfold qR at q;split at q
 .rename_i ws' h1;exact⟨P,ac,ws,true,ws',I,h1,λH' I'=>yC ⟨P,ac,ws',I',q⟩⟩
 .rename_i ws' h1;exact⟨P,ac,ws,false,ws',I,h1,λH' I'=>zX ⟨P,ac,ws',I',q⟩⟩
 .exact q.elim
def uN(φ:En->Ab D->En)(pre:En->Bool)(f:En->Aa D)(g:En->Ab D->Res×Ab D):En->Ab D->Res×Ab D:=λac ws=>match f (φ ac ws) with
 |some (.exc C)=>if pre (φ ac ws)=true then(.ret (.exc C),ws) else(.bad,ws)
 |_=>zV g ac ws
def Z8r(K:Frag)(A:Ab Af)(φ:En->Ab D->En):Prop:=∀P H σ ac ws,SInvG K P H σ ac A ws->∃F,EnvOk K H σ (φ ac ws) F
def Z1B{K:Frag}:Z8r K A (λac _=>ac):=λP H σ ac ws I=>I.eok
def Z1A(a:Af):En->Ab D->En:=λac ws=>match ws with
 |[w]=>opn a w ac
 |_=>ac
def Z5v{K:Frag}:Z8r K [a] (Z1A a):=λP H σ ac ws I=>by
 unfold Z1A;split
 .exact I.opn
 .exact I.eok
def Z8(i:Z8r X.K A φ)(j:QSg X A st g)(n:PS X st t)(l:∀D σ H Q,tXE X.K E pre f σ H Q->t D σ H):QSxg X E A st (uN φ pre f g):=λaa s σ H D I ⟨P,ac,ws,IS,q⟩=>by
 obtain⟨F,hF⟩:=i P H σ ac ws IS;by_cases a:∃C,f (φ ac ws)=some (.exc C)
 .obtain⟨C,a⟩:=a;by_cases hp:pre (φ ac ws)=true
  .have e:uN φ pre f g ac ws=(.ret (.exc C),ws):=by unfold uN;rw[a];exact if_pos hp
   rw[e]at q;obtain⟨fw,W,b⟩:=IS;exact n aa s σ H D I (l D σ H (λ_ _=>True) ⟨_,F,C,hF,a,hp,λH' s'=>q H' fw (W.same s') (b.same.trans (kK s'))⟩)
  .have e:uN φ pre f g ac ws=(.bad,ws):=by unfold uN;rw[a];exact if_neg hp
   rw[e]at q;exact q.elim
 .have e:uN φ pre f g ac ws=zV g ac ws:=by
   unfold uN;split
   .rename_i C h;exact absurd ⟨C,h⟩ a
   .rfl
  rw[e]at q;exact j aa s σ H D I ⟨P,ac,ws,IS,G5 q⟩
end
def Z8M(K:Frag)(n:Nat)(g:Af->D->Ab D->Aa (D×D)):Sp:=λvs H Q E=>∃a us w ds fw fps d w',vs=.ref a::us/\ds.length=n/\Hw K H [a] [w] fw/\Reps K false (Hid H fw) ds us fps/\g a w ds=some (d,w') /\
 match d with
 | .exc C=>∀H' fw',Hw K H' [a] [w'] fw'->Same (Hid H fw) (Hid H' fw')->E (.ref C) none H'
 |d=>∀v H',SInvG K (Hid H fw) H' [some v] [some (true,d)] [a] [w']->Q v H'
def Z6D{K:Frag}{n:Nat}{g:Af->D->Ab D->Aa (D×D)}{vs:Ab V}{H:Hp}{Q:VK}{E:XK}(h:Z8M K n g vs H Q E):vs.length=n+1:=by
 obtain⟨a,us,w,ds,fw,b,d,w',rfl,h1,_,h2,_⟩:=h;rw[Qai,h2.length,h1]
def FunD.okGE{P:Aj}{w:Ak}{K:Frag}{mg:Str->Aa Ad}{ad:Ah}{x ah:Str}{st:Stmt}{f:Af}{fd:FuncData}{N ps:Ab Str}{k n L:Nat}{G:Af->En->Ab D->Res×Ab D}(F:FunD K x ah st f fd)(S:fL N ps (aS st))(y:ps.length=n+1)(B:N.length=L)
  (j:∀(a:Af) (i:Ad) (A:Ai) (af:Ab Env) (s:Ac) (H:Hp) (E:XK),Room k (A.deeper (envOfC ah (aS st) s.heap.objs.size f i))->QSsxg (cxE P w K mg ad N ah (aS st) f i A af s H E) E [a] (cN st) (G a)) :
  jK P w K mg ad (CXe P w) (k+1) f fd ps (Z8M K n (E5 L G)):=by
 subst B;obtain⟨J,M,O,kV,C,R,an,i,ct,I,rfl,u,p⟩:=F.ex;refine Z1V u p S (λvs H Q E h=>(Z6D h).trans y.symm) λA af s H vs Q E hr hsp=>?_;obtain⟨a,us,w,ds,fw,o,d,w',rfl,h1,W,h2,h3,q⟩:=hsp;have hs:Reps K false (Hid H fw) (.fn a [] []::ds) (.ref a::us) ([]++o):=Reps.consR (by simp only[Rep];exact⟨trivial,gY⟩) h2;refine⟨_,j a i A af s H E hr,Hid H fw,eU N.length (.fn a [] []::ds),[w],⟨fw,W,oX hs⟩,?_⟩;unfold E5 at h3;split at h3
 .rename_i d' t l;cases h3;simp only[l];cases d<;>first|exact λv H' fp fw' W' s' r fr nd=>q v H' ⟨fw',W',vL s' r nd fr⟩|exact λH' fw' W' s'=>q H' fw' W' s'
 .rename_i T t l;cases h3;simp only[l];exact λσ' H' ⟨fw',W',I'⟩=>q .non H' ⟨fw',W',vL I'.same pB QaD (λb j=>(by cases j))⟩
 .cases h3
open Classical in
def N9{α:Type}(φ:Af->α)(z:α):α:=if h:∃r,∀a,φ a=r then h.choose else z
def Z6d{α:Type}{b:Af->α}{z r:α}(h:∀a,b a=r):N9 b z=r:=by
 have f:∃r,∀a,b a=r:=⟨r,h⟩;unfold N9;rw[dif_pos f,<- h 0];exact(f.choose_spec 0).symm
def Z6c{α:Type}{b:Af->α}{z r:α}(e:N9 b z=r)(h:z≠r):∀a,b a=r:=by
 unfold N9 at e;split at e
 .rename_i f;intro a;rw[f.choose_spec a,e]
 .exact absurd e h
section
variable {K:Frag}{P H H':Hp}{σ:L2.St}{ac:En}{w:D}{fp fw:Ab Af}{A:Ab Af}{ws:Ab D}{a:Af}
def SInvG.made{i:Nat}(I:SInvG K P H σ ac A ws)(s:Same H H')(r:Rep K true H' w (.ref a) fp)(nd:fp.Nodup)(fr:∀b∈fp,H b=none)(hp:pln w=true):SInvG K P H' (σ.set i (some (.ref a))) (ac.set i (some (true,.fn a [] []))) (A++[a]) (ws++[w]):=by
 obtain⟨fw,W,f⟩:=I;have j:∀b∈fw,b∉fp:=λb hb hz=>by
  obtain⟨o,e⟩:=W.dom b hb;rw[fr b hz]at e;cases e
 have l:Hw K H' (A++[a]) (ws++[w]) (fw++fp):=by
  refine⟨?_,Qau.mpr ⟨W.nd,nd,λx hx y hy z=>j x hx (z ▸ hy)⟩,by simp only[qV,pln.plns,Qak];exact⟨W.pl,hp,trivial⟩⟩;rw[QaT];exact(W.same s).rep.snoc r
 have h:Same (Hid H fw) (Hid H' (fw++fp)):=λb o e=>by
  obtain⟨h1,h2⟩:=gU e;rw[bW λz=>?_]
  .exact s _ _ h2
  .rcases Qaf.mp z with z|z
   .exact h1 z
   .rw[fr b z]at h2;cases h2
 obtain⟨F,hF⟩:=f.ex;exact⟨_,l,sD i f.same f.len hF h (fp:=[]) (by simp only[Rep];exact⟨trivial,gY⟩) QaD λb hb=>by cases hb⟩
def Hw.less{ws':Ab D}(W:Hw K H (A++[a]) (ws++[w]) fw):∃f1,Hw K H A ws f1/\∀b∈f1,b∈fw:=by
 obtain⟨h,nd,pl⟩:=W;obtain⟨q,t,j,f1,f,u,i,v,rfl,p,r,o⟩:=uL h;have l2:=o.length;have l:j=[]:=QaM.mp (by simpa using l2);subst l;rw[QaT]at i;obtain⟨n,_⟩:=List.append_inj' i rfl;simp only[qV,pln.plns,Qak]at pl;subst n;exact⟨f1,⟨p,(Qau.mp nd).1,pl.1⟩,λb hb=>Qar _ hb⟩
end
def Zdg{K:Frag}{C x dx:Af}{H0:Hp}{σ:L2.St}{i:Str}{f1:En->Aa D}{ac:En}{o:D}{E:yP}{F:Nat->Ab Af}
  (n:H0 x=none) (l:H0 dx=none) (h:dx≠x) (ok:EnvOk K H0 σ ac F) (A:σ[0]?=some (some (.ref x))) (w:f1 ac=some o) (G:Cls K C) (B:NoAttr K C i)
  (q:∀H' fp',Same H0 H'->Rep K true H' (.obj C [i] [o]) (.ref x) fp'->(∀b∈fp',H0 b=none)->fp'.Nodup->E.nx σ H') :
  Z6Q K (X1 0) (tD K true [] f1) i E σ (upd (upd H0 dx (.own x)) x (.ins C dx [])):=by
 have r:upd H0 dx (.own x) x=none:=by rw[aY (Ne.symm h)];exact n
 have s0:Same H0 (upd (upd H0 dx (.own x)) x (.ins C dx [])):=(bV l).trans (bV r);refine⟨ac,F,o,ok.same s0,w,λy1 H1 g1 s1 r1 c1=>⟨.ref x,A,x,C,dx,[],rfl,s1 _ _ bC,G,B,by show 0<1000;decide,?_⟩⟩;show E.nx σ (upd H1 x (.ins C dx [(i,y1)]));have S1:Same H0 (upd H1 x (.ins C dx [(i,y1)])):=λb u e=>by
  rw[aY (bL e n)];exact s1 _ _ (s0 _ _ e)
 have v:H1 x=some (.ins C dx []):=s1 _ _ bC;have f:=c1.2 rfl;have j:x∉g1:=λz=>by have:=f.2 x z;rw[bC]at this;cases this
 have p:upd (upd H0 dx (.own x)) x (.ins C dx []) dx=some (.own x):=by rw[aY h];exact bC
 have y:=s1 _ _ p;have t:dx∉g1:=λz=>by have:=f.2 dx z;rw[p]at this;cases this
 have H:=Rep.keep _ _ _ (Kp.upd (o':=.ins C dx [(i,y1)]) v (by intro xs z;cases z) (by intro a b z;cases z) j) r1;refine q _ (x::dx::g1) S1 ?_ (λb hb=>?_) ?_
 .simp only[Rep];refine⟨x,dx,[y1],g1,rfl,rfl,bC,by rw[aY h];exact y,rfl,?_⟩;have:=Reps.consR H (gY (K:=K) (m:=true));rw[QaN]at this;exact this
 .rcases Qab.mp hb with z|z
  .rw[z];exact n
  .rcases Qab.mp z with z|z
   .rw[z];exact l
   .exact s0.free (f.2 b z)
 .exact Qav.mpr ⟨λz=>(Qab.mp z).elim (λz=>h z.symm) j,Qav.mpr ⟨t,f.1⟩⟩
section
variable {X:Cx}{x:Str}{C:Af}{p ai:Pos}
def ZbH(c:W0 X.prog X.w X.K X.mg X.base x C k 0 F')(j:Room (k+1) X.A)(i:Gl X x:=by rfl)(f:nDb x:=by decide) :
  QE X true [] (.Call (.Name x p) [] [] ai) (λ_=>F' []):=by
 obtain⟨l,fd,ps,M,G,h,a⟩:=c.ex;refine .mk (L2.pe_make0 M G j i h a .nil Z1y f) λσ H Q ⟨ac,F,d,ok,e,q⟩=>?_;exact λx dx hx hdx hne=>⟨x,dx,H,[],[],d,[],rfl,hx,hdx,hne,rfl,rfl,gY,e,λH' fp' s' r' fr nd=>⟨rfl,q _ H' fp' s' r' ⟨λb a=>.inl (fr b a),λ_=>⟨nd,fr⟩⟩⟩⟩
end
def P9(i:Nat)(g:En->Ab D->Res×Ab D):Ab D->En->Ab D->Res×Ab D
 |[],ac,ws=>(.next ac,ws)
 |d::r,ac,ws=>match g (ac.set i (some (false,d))) ws with
  |(.next e,w)=>P9 i g r e w
  |(.cont e,w)=>P9 i g r e w
  |(.brk e,w)=>(.next e,w)
  |(.ret d,w)=>(.ret d,w)
  |(.bad,w)=>(.bad,w)
def Z1n(rs:Ab Nat)(src:En->Aa (Ab D))(i:Nat)(g:En->Ab D->Res×Ab D):En->Ab D->Res×Ab D:=λac ws=>match src ac with
 |some ds=>P9 i g ds (fz rs ac) ws
 |none=>(.bad,ws)
theorem SInvG.lower{K:Frag}{P a H:Hp}{σ:L2.St}{ac:En}{A:Ab Af}{ws:Ab D}(s:Same P a)(h:SInvG K a H σ ac A ws):SInvG K P H σ ac A ws:=by
 obtain⟨fw,W,b⟩:=h;exact⟨fw,W,b.lower s⟩
section
variable {X:Cx}{A:Ab Af}{iter:Ag}{body:Ab Stmt}{src:En->Aa (Ab D)}{g:En->Ab D->Res×Ab D}{ai px:Pos}{i:Nat}{x:Str}{rs:Ab Nat}
open Classical in
def Z9d(hc:X.calm=true)(hp:PassesOwn (model X.prog X.w) X.A X.env X.xe)(hN:X.N.Nodup)(hi':X.N[i]?=some x)(hx:Loc X.env.scope x)(hi:QI X (.Name x px) rs iter src)(a:QSsg X A body g)(hs:∀x,foldedSetIterable iter X.env x=pure x:=by intro _;rfl)
  (hf:X.fn x=true\/X.env.scope.names.lookup x=some .local:=by first|exact .inl rfl|exact .inr rfl|assumption) :
  QSg X A (.For (.Name x px) iter body [] ai) (Z1n rs src i g):=.mk (Z2W hp hc hi (dM hN hi' hx hf) a hs) λE σ H ⟨P,ac,ws,⟨fw,W,I⟩,q⟩=>by
 obtain⟨F,hF⟩:=I.ex;unfold Z1n at q;split at q
 .rename_i ds h1;refine⟨ac,nrm ac F,ds,hF.nrm.ok.same hid_le,h1,λJ H1 fp s1 gv dm cd=>?_⟩;have a5:Cond (nrm ac F) (Hid H fw) false rs fp:=⟨λb a=>(cd.1 b a).imp (λz=>hid_le.free z) id,λz=>by cases z⟩;have ap:=D5 hF a5;have L:=W.same s1;have S:∀b∈fp,b∉fw:=λb a hz=>by
   rcases cd.1 b a with z|⟨r,_,z⟩
   .obtain⟨o,e⟩:=W.dom b hz;rw[z]at e;cases e
   .obtain⟨sl,Z⟩:=Z08 z;rw[qY Z]at z;obtain⟨o,e⟩:=hF.dom Z b z;rw[rG hz]at e;cases e
  let O:Af->Prop:=λb=>∃j d,(fz rs ac)[j]?=some (some (true,d))/\b∈nrm ac F j
  let h:Hp:=λb=>if O b then none else Hid H1 fw b
  have t:EnvS X.K P (Hid H1 fw) σ (fz rs ac) (nrm ac F):=(hF.nrm.fz rs).grow (kK s1);have B:∀b,O b->(∀xs,Hid H1 fw b≠some (.tup xs))/\∀o u,Hid H1 fw b≠some (.frz o u):=λb ⟨j,d,e,a⟩=>by
   obtain⟨v,hv,r⟩:=t.ok j true d e;exact Rep.kind _ _ _ r b a
  have pn:∀{b:Af},¬O b->h b=Hid H1 fw b:=λhn=>if_neg hn;have po:∀{b:Af},O b->h b=none:=λf=>if_pos f;have sP1:Same h (Hid H1 fw):=λb o e=>by
   by_cases f:O b
   .rw[po f]at e;cases e
   .rw[pn f]at e;exact e
  have Q:Same P h:=λb o e=>by
   have f:¬O b:=λ⟨j,d,M,a⟩=>by
    have:=(t.own j d M).2.1 b a;rw[this]at e;cases e
   rw[pn f];exact kK s1 _ _ (I.same _ _ e)
  have T:∀b∈fp,¬O b:=λb a ⟨j,d,M,hb'⟩=>ap j d M b hb' a;have y:∀{b:Af}{o:HO},¬O b->b∉fw->H1 b=some o->h b=some o:=λf hw e=>by rw[pn f,bW hw];exact e
  have kp:∀{l:Hp}{f2:Ab Af},Same h (Hid l f2)->Kp fp H1 l:=λ{l f2} s2=>⟨λb a o e=>(gU (s2 _ _ (y (T b a) (S b a) e))).2,
   λb xs e=>(gU (s2 _ _ (y (λf=>(B b f).1 xs (by rw[bW (L.hd.tup e)];exact e)) (L.hd.tup e) e))).2,
   λb o u e=>(gU (s2 _ _ (y (λf=>(B b f).2 o u (by rw[bW (L.hd.frz e)];exact e)) (L.hd.frz e) e))).2⟩
  refine⟨λn k σ' H'=>n<=ds.length/\k=ds.length-n/\∃env' ws',SInvG X.K h H' σ' env' A ws'/\V9 X.K P A E (P9 i g (ds.drop n) env' ws').1 (P9 i g (ds.drop n) env' ws').2,
   ⟨ds.length,QaY _,rfl,fz rs ac,ws,⟨fw,L,sP1,by rw[Z0u];exact I.len,nrm ac F,t.ok,λj d e=>?_⟩,by simpa using q⟩,?_⟩
  .obtain⟨a1,a2,a3,a4⟩:=t.own j d e;exact⟨a1,λb a=>po ⟨j,d,e,a⟩,a3,a4⟩
  .rintro n k σ' H' ⟨hn,hk,env',ws',⟨f2,W2,I'⟩,q'⟩;have gi:=gv H' (kp I'.same) n;by_cases G:n<ds.length
   .right;have hd:ds[n]?=some ds[n]:=Qam G;obtain⟨go,hy⟩:=gi.1 _ hd;have R:ds.drop n=ds[n]::ds.drop (n+1):=Qbe G;rw[R]at q';refine⟨go,λσ2 l=>∃env2 ws2,SInvG X.K h l σ2 env2 A ws2/\V9 X.K P A E (P9 i g (ds.drop (n+1)) env2 ws2).1 (P9 i g (ds.drop (n+1)) env2 ws2).2,λσ2 l ⟨env2,ws2,C,q2⟩=>⟨ds.length-(n+1),by omega,G,rfl,env2,ws2,C,q2⟩,λv l y2=>?_⟩;obtain⟨U,f3,r2,p⟩:=hy v l y2;have W3:=W2.same U;have C:=I'.grow (kK (fw:=f2) U);obtain⟨F2,Y⟩:=C.ex;have a0:∀b∈f3,∃o,h b=some o:=λb a=>by
     obtain⟨o,e⟩:=dm b (p b a);exact⟨o,y (T b (p b a)) (S b (p b a)) e⟩
    have r3:Rep X.K false (Hid l f2) ds[n] v f3:=Z3T W3.hd r2 λb a hz=>by
     obtain⟨o,e⟩:=a0 b a;have:=C.same _ _ e;rw[rG hz]at this;cases this
    have I3:SInvG X.K h l (σ'.set i (some v)) (env'.set i (some (false,ds[n]))) A ws':=⟨f2,W3,Z14 i C.same C.len Y (Same.refl _) r3 λj d' M b a z=>by
     have h5:=(Y.own j d' M).2.1 b a;obtain⟨o,e⟩:=a0 b z;rw[h5]at e;cases e⟩
    refine⟨h,_,ws',I3,?_⟩;unfold P9 at q';cases hg:g (env'.set i (some (false,ds[n]))) ws' with
    |mk r w1 =>
     rw[hg]at q';cases r with
     |next e2=>exact λσ4 H4 I4=>⟨e2,w1,I4,q'⟩
     |cont e2=>exact λσ4 H4 I4=>⟨e2,w1,I4,q'⟩
     |brk e2=>exact λσ4 H4 I4=>q' σ4 H4 (I4.lower Q)
     |ret d=>exact λv H4 fp4 fw4 W4 s4 r4 n4 nd4=>q' v H4 fp4 fw4 W4 (Q.trans s4) r4 (λb a=>Q.free (n4 b a)) nd4
     |bad=>exact q'.elim
   .left;have hn':n=ds.length:=by omega
    rw[hn',List.drop_length]at q';exact⟨gi.2 (by omega),q' σ' H' (SInvG.lower Q ⟨f2,W2,I'⟩)⟩
 .exact q.elim
end
structure Z8t(P:Program)(w:World)(K:Frag)(mg:Str->Option Value)(base:Heap)(CD:Addr)(m:Str)(k n:Nat)(g:Addr->D->List D->Option (D×D)):Prop where
 ex:∃fA fd ps,jK P w K mg base (CXe P w) k fA fd ps (Z8M K n g)/\Zdz K CD m fA/\Binds K fd ps []/\Cls K CD
open Classical in
def E7(a CD:Af)(m:Str)(Cs:Ab Af)(il i j kk:Nat)(g:Af->D->Ab D->Aa (D×D))(fs:En->Aa (Ab D)):En->Ab D->Res×Ab D:=λac ws=>match fs ac,ws with
 | some xs,[.obj C ns ds]=>if C=CD /\ m ∉ ns /\ (∃ o,ac[il]? = some (some (o,.fn a [] []))) then
   (match g a (.obj C ns ds) xs with
    |some (.exc C',w')=>if C'∈Cs/\j≠kk/\j<ac.length/\kk<ac.length then(.next ((ac.set j (some (true,.exc C'))).set kk none),[w']) else(.bad,ws)
    |some (d,w')=>(.next (ac.set i (some (true,d))),[w'])
    |none=>(.bad,ws)) else(.bad,ws)
 |_,_=>(.bad,ws)
theorem Z0Y:∀{ns:Ab Str}{vs:Ab V},m∉ns->(ns.zip vs).lookup m=none
 |[],_,_=>rfl
 |_::_,[],_=>rfl
 |n::ns,v::vs,h=>by
  have h1:(m==n)=false:=beq_eq_false_iff_ne.mpr λz=>h (z ▸ Qag);rw[Qba,QaB,h1];exact Z0Y λz=>h (Qaa _ z)
section
variable {X:Cx}{aa:Ab (Af×Obj)}{σ:L2.St}{H:Hp}{s:Ac}{m1:Bool}{rs1:Ab Nat}{e:Ag}{es:Ab Ag}{fs:En->Aa (Ab D)}
def Z9c
  (c:Z8t X.prog X.w X.K X.mg X.base CD m k n g) (hr:Room k X.A) (hna:NArgs n fs) (ha:QA X m1 rs1 (e::es) fs) (O:∀C∈Cs,ExC X.base C/\PySem.W.exmOne X.K (.ref C) (.ref B)=some true) (hgC:Gl X cx) (hmC:X.mg cx=some (.ref B)) (hc:X.calm=true) (hxe:X.xe=λ_ _=>False)
  (hst:X.stack=X.env::X.outer) (hf:X.env.frame=some X.env.locals) (hN:X.N.Nodup) (hl:X.N[il]?=some dv) (hvl:Vis X.env.scope dv) (hi:X.N[i]?=some xv) (hj:X.N[j]?=some yv) (hk:X.N[kk]?=some en)
  (li:X.env.scope.names.lookup xv=some .local) (lj:X.env.scope.names.lookup yv=some .local) (lk:X.env.scope.names.lookup en=some .local) (hjk:j≠kk)
  (hdv:nDb dv:=by decide) (hdv2:(dv==("__classdict__" : Str))=false:=by decide) (hdc:nDb cx:=by decide) (hde:nDb en:=by decide) (hce:(en==("__classdict__" : Str))=false:=by decide)
  (he:sEa e es X.env:=by rfl) (hpl:bTa p3 es X.env:=by rfl)
  (hs1:swapsWith (.Call (.Attribute (.Name dv p2) m ap) (e::es) [] p3) (some (.Name xv p1)) p4.line X.env=pure false:=by rfl) (hs2:swapsWith (.Name en p7) (some (.Name yv p6)) p8.line X.env=pure false:=by rfl)
  (ht:eval (.Call (.Attribute (.Name dv p2) m ap) (e :: es) [] p3) X.env=(do
   let ov <- eval (.Name dv p2) X.env
   standAt ap.atName
   let (f,first) <- holding [ov] (getMethod ov m pl)
   callWith p3 f first (backTo p3 (starEach (e::es) X.env)) (backToKw p3 (keywordEach [] X.env))):=by rfl) :
  QSg X [a] (.Try [.Assign [.Name xv p1] (.Call (.Attribute (.Name dv p2) m ap) (e::es) [] p3) p4] [.ExceptHandler (some (.Name cx p5)) (some en) [.Assign [.Name yv p6] (.Name en p7) p8] p9] [] [] p10) (E7 a CD m Cs il i j kk g fs):=by
 classical
 intro aa s σ H D I ⟨P,ac,ws,⟨fw,W,IS⟩,q⟩;obtain⟨fA,fd,ps,G,hm,h,hcl⟩:=c.ex;obtain⟨F,hF⟩:=IS.ex;unfold E7 at q;split at q
 .rename_i xs C ns ds h1;split at q
  .rename_i L;obtain⟨rfl,hmn,o0,he0⟩:=L;obtain⟨v0,hv1,a0⟩:=hF.ok il o0 _ he0;simp only[Rep]at a0;obtain⟨rfl,_⟩:=a0;obtain⟨ro,ndw,plw⟩:=hw_one.mp W;have U:=ro;simp only[Rep]at U;obtain⟨a',dx,vsf,fp',ea,_,hA,_,hln,_⟩:=U;cases ea;refine wpAny_Try_except (wpAny_execs_cons (wpAny_Assign_Name ?_ hs1));refine PySem.W.methodCall_KW (pl:=pl) (Rc ((show PE X (.Name dv p2) (X1 il) from mL hl hvl hdv hdv2) aa s σ H (λx H1=>x=.ref a/\H1=H) I ⟨.ref a,hv1,rfl,rfl⟩) (λu s0 ⟨x0,H0,I0,r0,ex,eh⟩=>?_) λ_ _ z=>(by rw[hxe]at z;exact z.elim)) ht
   subst ex eh;obtain rfl:u=Value.ref a:=r0;refine Z3m I0 hA hcl hm (Z0Y hmn) ?_;refine PySem.W.callWith_K (first:=[.ref a]) (h₀:=X.base) I.ok.mod.kin hm.kp (Rc (ha p3 aa s0 σ H0 (λvs H1=>Same H0 H1/\∃fp,Reps X.K m1 H1 xs vs fp/\∀b∈fp,b∉fw) I0 ⟨ac,nrm ac F,xs,hF.nrm.ok.same hid_le,h1,λvs H1 fp sm r cd=>⟨sm,fp,r,λb h hz=>?_⟩⟩) (λus s1 ⟨vs,H1,I1,r,sm,fp,rr,apf⟩=>⟨I1.kIn,?_⟩) λ_ _ z=>(by rw[hxe]at z;exact z.elim)) he hpl
   .rcases cd.1 b h with z|⟨rr,_,z⟩
    .obtain⟨o,e⟩:=W.dom b hz;rw[z]at e;cases e
    .obtain⟨sl,T⟩:=Z08 z;rw[qY T]at z;obtain⟨o,e⟩:=hF.dom T b z;rw[rG hz]at e;cases e
   have R:=W.same sm;have rp:Reps X.K false (Hid H1 fw) xs vs fp:=Reps.keep _ _ _ ⟨λb h o e=>by rw[bW (apf b h)];exact e,λb xs e=>by rw[bW (R.hd.tup e)];exact e,λb o u e=>by rw[bW (R.hd.frz e)];exact e⟩ (Reps.weak _ _ _ rr);have Y:xs.length=n:=hna.len ac xs h1;have y:SInv X.K P (Hid H1 fw) σ ac:=IS.grow (kK sm);have r2:Vals (.ref a::vs) (.ref a::us):=.cons rfl r;have a2:∀(Q:VK) (S:XK),Z8M X.K n g (.ref a::vs) H1 Q S->∀{Z:Ad->Ac->Prop}{EE:Ad->Ac->Prop},(∀u s2,EP X aa σ Q u s2->Z u s2)->(∀e s2,CXe X.prog X.w X.stack H1 s1 S e s2->EE e s2)->wpAny (model X.prog X.w) X.A (call (.ref fA) (.ref a::us)) Z EE s1:=by
    intro Q S a1 Z EE z1 z2;have hl:(Value.ref a::us++[]).length=ps.length:=by rw[QaN,<- r2.length];exact G.len _ _ _ _ a1
    refine wpAny_call (codeAny_mono (G.run X.A X.stack s1 H1 ⟨.ref a::us,[]⟩ (.ref a::us++[]) (.ref a::vs) Q S hr I1.env0 (h s1 (.ref a::us) I1.kIn hl) (by rw[QaN];exact r2) a1) λr s' hq=>?_);cases r with
    |error e=>exact z2 e s' hq
    |ok fl =>
     cases fl with
     |ret u=>exact z1 u s' (I1.after hq)
     |next=>exact False.elim hq
     |brk=>exact False.elim hq
     |cont=>exact False.elim hq
   cases t:g a (.obj C ns ds) xs with
   |none=>simp only[t]at q;exact q.elim
   |some dw =>
    obtain⟨d,w'⟩:=dw;by_cases hx:∃p,d=.exc p
    .obtain⟨p,rfl⟩:=hx;simp only[t]at q;split at q
     .rename_i hcc;obtain⟨hCs,_,hjl,hkl⟩:=hcc;obtain⟨OC,hex⟩:=O p hCs;refine a2 (λ_ _=>False) (λcls _ H2=>cls=.ref p/\∃l,Hw X.K H2 [a] [w'] l/\Same (Hid H1 fw) (Hid H2 l)) ⟨a,vs,_,xs,fw,fp,.exc p,w',rfl,Y,R,rp,t,λH2 l W2 s2=>⟨rfl,l,W2,s2⟩⟩ (λu s2 ⟨_,_,_,_,z⟩=>z.elim) λe s2 cx=>?_;refine Zcj I1 hst hf cx λae C2 H2 s3 ea hHa hE I3 tr=>?_;obtain⟨eC,l,W2,sm2⟩:=hE;cases eC;subst ea;obtain⟨⟨oe,vs',g1,g2,g3⟩,_⟩:=(show ObjOk X.prog X.w _ s3.heap ae (.ext (rF ae (.ref p))) from I3.hok ae _ bC)
      have LT:PySem.W.Looks (model X.prog X.w) s3.heap (typeOf (.ref ae)) (.ref p):=by
       rw[<- g2];exact(PySem.W.Looks.ld g1).andThen .now
      have LM:=PySem.W.exm_one (M:=model X.prog X.w) I3.kIn LT hex;obtain⟨hh,gg,dr,tt,oo⟩:=s3;refine wpAny_handleBy_cons (codeAny_handlers_test ?_) (by intro z;cases z);refine Calls.Name_function_global I3.ok.kind hgC (Calls.loadGlobal_global (by rw[I3.ok.glob];exact I3.mod.glob.keeps I3.bk) hmC ?_) hdc;refine LM.here ?_;refine codeAny_handlers_suite_as ?_;obtain⟨oe2,vs2,T2,oT,ts,w1,w2,w3,w4,w5,w6,w7,w8⟩:=tr;have hsz:3<ts.size:=(QaL.mp w7).1;refine wpAny_setFlight_none w1 w2 w3 w5 w6 hsz ?_;have I4:=I3.kept (h':=hh.update T2 (Obj.mapFields (·.setIfInBounds 3 .none))) (t':=tt) λb u e=>by
       by_cases h:b=T2
       .subst h;rw[w5]at e;cases e;rw[Heap.get?_update_self _ w5 (Obj.isFreed_of_fields (Obj.data_mapFields w6 _)),Z5F w6 w7]
       .rw[Heap.get?_update_other _ _ (Ne.symm h)];exact e
      refine oA I4 hN hk (.inl lk) (v:=.ref ae) rfl (λs5 I5=>?_) (.inr lk);have hkσ:kk<σ.length:=by rw[I.len];exact(Qah.mp hk).1
      obtain⟨mm,hn5,hl5⟩:=id I5.loc;obtain⟨u,ru,lu⟩:=hl5 kk en (.ref ae) hk (QaC hkσ) (.inl lk);have hv:mm en=some u:=by
       rcases lu with⟨_,e⟩|⟨z,_⟩
       .exact e
       .have E:X.env.scope.names.lookup en=some .cell\/X.env.scope.names.lookup en=some .free:=z;rw[lk]at E;rcases E with E|E<;>cases E
      refine wpAny_execs_cons (wpAny_Assign_Name (wpAny_Name (wpAny_loadName_local I5.ok.kind lk hn5 hv ?_) hde) hs2);refine oA I5 hN hj (.inl lj) ru (λs6 I6=>wpAny_execs_nil ?_) (.inr lj);refine Z5C I6 hN hk lk λs7 I7=>⟨_,_,I7,q _ _ ?_⟩;have rx:Rep X.K true (upd H2 ae (.ext (rF ae (.ref p)))) (.exc p) (.ref ae) [ae]:=by simp only[Rep];exact⟨ae,rfl,rfl,bC⟩
      have J0:SInvG X.K P H2 σ ac [a] [w']:=⟨l,W2,y.grow sm2⟩;obtain⟨fw3,W3,J1⟩:=(J0.push (bV hHa) rx (by simp) (λb h=>by rw[Qaq.mp h];exact hHa)).move j;have e0:((σ.set kk (some (V.ref ae))).set j (some (V.ref ae))).set kk none=(σ.set j (some (V.ref ae))).set kk none:=by
       rw[List.set_comm _ _ (Ne.symm hjk),List.set_set]
      rw[e0];exact⟨fw3,W3,(J1.drop kk).put kk none (by rw[QaC (by rw[List.length_set];exact hkl)])⟩
     .exact q.elim
    .have q':V9 X.K P [a] D (.next (ac.set i (some (true,d)))) [w']:=by
      simp only[t]at q;cases d<;>first|exact q|exact absurd ⟨_,rfl⟩ hx
     refine a2 (λv H2=>SInvG X.K (Hid H1 fw) H2 [some v] [some (true,d)] [a] [w']) (λ_ _ _=>False) ⟨a,vs,_,xs,fw,fp,d,w',rfl,Y,R,rp,t,?_⟩ (λu s2 ⟨v,H2,I2,rv,J⟩=>?_) λe s2 cx=>?_
     .cases d<;>first|exact λv H2 J=>J|exact absurd ⟨_,rfl⟩ hx
     .refine oA I2 hN hi (.inl li) rv (λs3 I3=>wpAny_execs_nil (wpAny_execs_nil ⟨_,H2,I3,q' _ _ ?_⟩)) (.inr li);obtain⟨f',W',J'⟩:=J;obtain⟨fv,rv',ndv,frv⟩:=sH (σ:=[]) (ac:=[]) J';obtain⟨F1,hF1⟩:=y.ex;exact⟨f',W',R5 i (sG y.same y.len hF1 J'.same rv' ndv frv)⟩
     .obtain⟨_,_,_,_,_,_,_,_,_,z⟩:=cx;exact z.elim
  .exact q.elim
 .exact q.elim
end
section
variable {X:Cx}{E:XK}{e:Ag}{f fx:En->Aa D}{ai:Pos}
def Z6X:En->Res:=λ_=>.ret .non
def Z9f:QS X (.Return none ai) Z6X:=.mk Z9u λD σ H ⟨P,ac,I,q⟩=>q .non H [] I.same pB (λb hb=>(by cases hb)) QaD
def qS(f:En->Aa D):En->Res:=λac=>match f ac with
 |some _=>.next ac
 |none=>.bad
def Z9g(he:QE X m rs e f)(hs:swapsWith e none ai.line X.env=pure false:=by rfl):QS X (.Expr e ai) (qS f):=.mk (vV he hs) λD σ H ⟨P,ac,I,q⟩=>by
 obtain⟨F,hF⟩:=I.ex;unfold qS at q;split at q
 .rename_i d h1;exact⟨ac,F,d,hF.ok,h1,λv H' fp s r c=>q σ H' (I.grow s)⟩
 .exact q.elim
def vP(he:QE X true [] e (fNX fx))(a:PE X e (tXE X.K E pre fx))(hs:swapsWith e none ai.line X.env=pure false:=by rfl):QSx X E (.Expr e ai) (rOr pre fx (qS (fNX fx))) :=
 gP (Z9g he hs) (vV a hs) λD σ H Q ⟨ac,F,C,ok,h,hp,q⟩=>⟨ac,F,C,ok,h,hp,q⟩
end
def Z3u(i:Nat):Res->Aa Res
 | .next ac=>some (.next (ac.set i none))
 | .ret d=>some (.ret d)
 |_=>none
def F3(i:Nat)(f:En->Aa D)(h:Af->En->Ab D->Res×Ab D):En->Ab D->Res×Ab D:=λac ws=>match f ac with
 | some (.obj C ns ds)=>if pln (.obj C ns ds)=true then
   (match N9 (fun a=>(Z3u i (h a (ac.set i (some (true,.fn a [] []))) (ws ++ [.obj C ns ds])).1).map fun r=>(r,(h a (ac.set i (some (true,.fn a [] []))) (ws ++ [.obj C ns ds])).2.take ws.length,decide ((h a (ac.set i (some (true,.fn a [] []))) (ws ++ [.obj C ns ds])).2.length=ws.length + 1))) none with
    |some (r,ws',true)=>(r,ws')
    |_=>(.bad,ws))
  else(.bad,ws)
 |_=>(.bad,ws)
section
variable {X:Cx}{A:Ab Af}{e:Ag}{sts:Ab Stmt}{f:En->Aa D}{h:Af->En->Ab D->Res×Ab D}{ai pos':Pos}{i:Nat}{x:Str}
def Z2S(W:X.N.Nodup)(hi:X.N[i]?=some x)(T:Loc X.env.scope x)(he:QE X true [] e f)(h2:∀a,QSsg X (A++[a]) sts (h a))(hs:swapsWith e (some (.Name x pos')) ai.line X.env=pure false:=by rfl)(hf:X.fn x=true\/X.env.scope.names.lookup x=some .local:=by first|exact .inl rfl|exact .inr rfl|assumption) :
  QSsg X A (.Assign [.Name x pos'] e ai::sts) (F3 i f h) :=
 .mk (mK (u:=λD σ H=>∃a,Z6w X.K (A++[a]) (h a) D σ H) (uP W hi T he hs hf) λaa s σ H E I ⟨a,q⟩=>h2 a aa s σ H E I q) λE σ H ⟨P,ac,ws,I,q⟩=>by
  obtain⟨F,hF⟩:=I.eok;unfold F3 at q;split at q
  .rename_i C ns ds h1;split at q
   .rename_i hp;split at q
    .rename_i r0 ws' Q;have B:=Z6c Q (by simp);refine⟨ac,F,_,hF,h1,λv H' fp s r c=>?_⟩;have J:=r;simp only[Rep]at J;obtain⟨a,dx,vs,fp',rfl,_⟩:=J;refine⟨a,P,_,_,I.made (i:=i) s r (c.2 rfl).1 (c.2 rfl).2 hp,?_⟩;have l:=B a;cases S:h a (ac.set i (some (true,.fn a [] []))) (ws++[.obj C ns ds]) with
     |mk r1 w1 =>
      rw[S]at l;have less:∀{j:Hp}{fw:Ab Af},w1.length=ws.length+1->Hw X.K j (A++[a]) w1 fw->∃f1,Hw X.K j A (w1.take ws.length) f1/\Same (Hid j fw) (Hid j f1):=λ{j fw} w n=>by
       obtain⟨t,O⟩:∃t,w1=w1.take ws.length++[t]:=by
        have hd:(w1.drop ws.length).length=1:=by rw[Qa2];omega
        obtain⟨t,U⟩:=List.length_eq_one_iff.mp hd;exact⟨t,by rw[<- U,List.take_append_drop]⟩
       rw[O]at n;obtain⟨f1,p,sub⟩:=Hw.less (ws':=[]) n;exact⟨f1,p,λb o e=>by
        obtain⟨k1,k2⟩:=gU e;rw[bW λz=>k1 (sub b z)];exact k2⟩
      cases r1 with
      |ret d1 =>
       simp only[Z3u,QaK,QaO,Prod.mk.injEq,Rj]at l;obtain⟨rfl,rfl,w⟩:=l;intro Y j fp2 fw n R Z G L;obtain⟨f1,p,y⟩:=less w n;exact q Y j fp2 f1 p (R.trans y) (Z.same y) G L
      |next e1 =>
       simp only[Z3u,QaK,QaO,Prod.mk.injEq,Rj]at l;obtain⟨rfl,rfl,w⟩:=l;intro M j ⟨fw,n,I2⟩;obtain⟨f1,p,y⟩:=less w n;exact q M j ⟨f1,p,(I2.grow y).drop i⟩
      |brk _=>simp[Z3u]at l
      |cont _=>simp[Z3u]at l
      |bad=>simp[Z3u]at l
    .exact q.elim
   .exact q.elim
  .exact q.elim
end
def Z1J:Ab D->Aa (Ab Key)
 |[]=>some []
 |d::r=>match oP d,Z1J r with
  |some k,some ks=>some (k::ks)
  |_,_=>none
theorem K2{K:Frag}{m:Bool}{H:Hp}:∀{a:Ab D}{vs:Ab V}{fp:Ab Af}{ks:Ab Key},Z1J a=some ks->Reps K m H a vs fp->vs=ks.map kV
 |[],vs,fp,ks,h,r=>by
  cases h;simp only[Reps]at r;rw[r.1];rfl
 |d::a,vs,fp,ks,h,r=>by
  unfold Z1J at h;split at h
  .rename_i k k2 b f;cases h;simp only[Reps]at r;obtain⟨v,us,f1,l,rfl,rfl,j,i⟩:=r;rw[K2 f i,oO b j];rfl
  .cases h
end PD
namespace L2
open PySem PySem.Spec PyProof.Rows
open Sem (wp)
section
variable {prog:Aj}{w:Ak}{A:Ai}{E:Ad->Ac->Prop}{s:Ac}{it t:Af}{i:Nat}{ak:Ae Ad}
def C6(x:IsTupIter h it t i)(k:∀o,h.get? it=some o->h'.get? it=some o):IsTupIter h' it t i:=let ⟨o,e,r⟩:=x;⟨o,k o e,r⟩
def Z7v(a:IsTupIter s.heap it t i)(p:IsTup s.heap t ak)(n:ak[i]?=some x)(o:∀h',IsTupIter h' it t (i+1)->Heap.SameBut it s.heap h'->Q x { s with heap:=h' }):wpAny (model prog w) A (Builtin.SmallTypes.nextOf (.ref it)) Q E s:=by
 obtain⟨r,f,h,b⟩:=id a;obtain⟨q,l,_,m,j⟩:=p;unfold Builtin.SmallTypes.nextOf;refine Ra (wpAny_callSpecial?_slot (name:=Str.ofString "__next__") a.typeIs slot_tupleiter_next (Rf slot_tupleiter_next a.typeIs entry_tupleiter_next (show wpAny _ _ (field (.ref it) 0 >>= _) _ _ s from Ra (wpAny_field f b (x:=.ref t) rfl ?_)) (args_tupleiter_next _)))
 refine show wpAny _ _ (if (Value.ref t==Value.none)=true then _ else _) _ _ s from ?_
 rw[if_neg (show ¬((Value.ref t==Value.none)=true) from Qbn)]
 refine show wpAny _ _ (field (.ref it) 1 >>= _) _ _ s from Ra (wpAny_field f b (x:=.int i 0) rfl (show wpAny _ _ (seqItems? (.ref t) >>= _) _ _ s from Ra (wpAny_seqItems l j ?_)))
 simp only[Int.toNat_natCast,n];exact Ra (wpAny_setField f b (by simp) (Rb ⟨x,rfl,Rb (o _ ⟨_,Heap.get?_update_self _ f (Obj.isFreed_of_fields (Obj.data_mapFields b _)),(Obj.cls_mapFields ..).trans h,by rw[Obj.data_mapFields b];simp[rawInt]⟩ (Heap.SameBut.update ..))⟩))
def Z9P(j:A.handled=none)(b:IsTupIter s.heap it t i)(r:IsTup s.heap t ak)(q:ak[i]?=none)(l:∀h' e,Heap.ExtBut it s.heap h'->(∃o,h'.get? e=some o/\o.cls=.type "StopIteration")->E (.ref e) { s with heap:=h' }):wpAny (model prog w) A (Builtin.SmallTypes.nextOf (.ref it)) Q E s:=by
 obtain⟨y,h,u,f⟩:=id b;obtain⟨v,p,_,m,n⟩:=r;unfold Builtin.SmallTypes.nextOf;refine Ra (wpAny_callSpecial?_slot (name:=Str.ofString "__next__") b.typeIs slot_tupleiter_next (Rf slot_tupleiter_next b.typeIs entry_tupleiter_next (show wpAny _ _ (field (.ref it) 0 >>= _) _ _ s from Ra (wpAny_field h f (x:=.ref t) rfl ?_)) (args_tupleiter_next _)))
 refine show wpAny _ _ (if (Value.ref t==Value.none)=true then _ else _) _ _ s from ?_
 rw[if_neg (show ¬((Value.ref t==Value.none)=true) from Qbn)]
 refine show wpAny _ _ (field (.ref it) 1 >>= _) _ _ s from Ra (wpAny_field h f (x:=.int i 0) rfl (show wpAny _ _ (seqItems? (.ref t) >>= _) _ _ s from Ra (wpAny_seqItems p n ?_)))
 simp only[Int.toNat_natCast,q];refine Ra (wpAny_rule (Ra (wpAny_setField h f (by simp) (show wpAny _ _ (newExc (.type "StopIteration") [] >>= _) _ _ _ from Ra ?_))))
 simp only[newExc,newTuple];refine Ra (Re (Ra (m:=firstArgMember _ _) (wpAny_of_eq (a:=Value.none) (by first|rfl|(simp only[firstArgMember];rfl)) (Re ?_ (by size_fits)))) (by size_fits))
 simp only[raiseNew];refine Ra (wpAny_handled ?_)
 first|rw[show A.in1.handled=none from j]|rw[j]
 exact Ra (Rb (wpAny_throw (l _ _ (((Heap.SameBut.update ..).extBut.push _).push _) ⟨_,Qas _ rfl,rfl⟩)))
def Z4O{z TI TO i1 i2 l1 l2:Af}{k1 k2:Nat}{xs ys:Ae Ad}{x y a b:Ad}{Q:Ad->Ac->Prop}(D:ZipApart z TI TO i1 i2 l1 l2)(f:IsZip s.heap z TI TO .none)(r:IsPair s.heap TI (.ref i1) (.ref i2))(p:IsPair s.heap TO a b)
  (h1:s.heap.IsListIter i1 l1 k1) (h2:IsTupIter s.heap i2 l2 k2) (q:s.heap.IsList l1 xs) (i:IsTup s.heap l2 ys) (C:xs[k1]?=some x) (u:ys[k2]?=some y)
  (F:∀h',IsZip h' z TI TO (rawInt s.heap.objs.size)->IsPair h' TO x y->h'.IsListIter i1 l1 (k1+1)->IsTupIter h' i2 l2 (k2+1)->IsPair h' s.heap.objs.size x y->h'.objs.size=s.heap.objs.size+1->(∀c o,c≠z->c≠TO->c≠i1->c≠i2->s.heap.get? c=some o->h'.get? c=some o)->Q (.ref s.heap.objs.size) { s with heap:=h' }) :
  wpAny (model prog w) A (Builtin.«zip.__next__» ⟨[.ref z],[]⟩) (λfin s'=>∃v,fin=.done (.ret v)/\Q v s') E s:=by
 refine show wpAny _ _ (field (.ref z) 2 >>= _) _ _ _ from Ra (wpAny_field f rfl (x:=.bool false) rfl (show wpAny _ _ (field (.ref z) 3 >>= _) _ _ _ from Ra (wpAny_field f rfl (x:=.ref TI) rfl (Ra (wpAny_seqItems r rfl (show wpAny _ _ (Builtin.SmallTypes.ownedTupleIsFree (.ref z) >>= _) _ _ _ from Ra ?_))))))
 unfold Builtin.SmallTypes.ownedTupleIsFree;refine Ra (wpAny_field f rfl (x:=.none) rfl (Rb ?_));simp only[Rk];refine Ra (wpAny_rule (Ra (wpAny_field f rfl (x:=.ref TO) rfl (Ra (wpAny_setField_rec f (by simp) λg1 (z1:IsZip g1 z TI TO .ellipsis) s1=>Ra ?_)))));simp only[List.zipIdx_cons,List.zipIdx_nil,Qbf,List.forIn_nil];refine Ra (Ra (wpAny_onRaise (show wpAny _ _ (Builtin.SmallTypes.nextOf (.ref i1) >>= _) _ _ _ from Ra (wpAny_nextOf_list_item (h1.extBut s1.extBut D.i1z) (q.extBut s1.extBut D.l1z) C λg2 j1 s2=>Rb ?_))))
 have t2:IsPair g2 TO a b:=s2.extBut _ _ D.TOi1 (s1.extBut _ _ D.TOz p);refine Ra (wpAny_seqItems t2 rfl (Ra (wpAny_updateSeq_pair t2 λg3 (t3:IsPair g3 TO x b) s3=>Ra (wpAny_letGo (Rb ?_)))));refine Ra (Ra (wpAny_onRaise (show wpAny _ _ (Builtin.SmallTypes.nextOf (.ref i2) >>= _) _ _ _ from Ra (Z7v (((h2.extBut s1.extBut D.i2z).extBut s2.extBut D.i12.symm).extBut s3.extBut D.TOi2.symm) (((i.extBut s1.extBut D.l2z).extBut s2.extBut D.l2i1).extBut s3.extBut D.l2TO) u λg4 j2 s4=>Rb ?_))))
 have j:IsPair g4 TO x b:=s4.extBut _ _ D.TOi2 t3;refine Ra (wpAny_seqItems j rfl (Ra (wpAny_updateSeq_pair j λg5 (t5:IsPair g5 TO x y) s5=>Ra (wpAny_letGo (Rb (Rb (Ra (wpAny_seqItems t5 rfl (Ra (wpAny_newTuple ?_))))))))));have sz:g5.objs.size=s.heap.objs.size:=s5.1.trans (s4.1.trans (s3.1.trans (s2.1.trans s1.1)));have h:IsZip g5 z TI TO .ellipsis:=s5.extBut _ _ D.TOz.symm (s4.extBut _ _ D.i2z.symm (s3.extBut _ _ D.TOz.symm (s2.extBut _ _ D.i1z.symm z1)));have k5:∀c o,c≠z->c≠TO->c≠i1->c≠i2->s.heap.get? c=some o->g5.get? c=some o:=λc o c1 c2 c3 c4 e=>s5.extBut _ _ c2 (s4.extBut _ _ c4 (s3.extBut _ _ c2 (s2.extBut _ _ c3 (s1.extBut _ _ c1 e))));have G:g5.IsListIter i1 l1 (k1+1):=((j1.extBut s3.extBut D.TOi1.symm).extBut s4.extBut D.i12).extBut s5.extBut D.TOi1.symm;have H:IsTupIter g5 i2 l2 (k2+1):=j2.extBut s5.extBut D.TOi2.symm;have l:z<g5.objs.size:=Qal h;refine show wpAny _ _ (Builtin.SmallTypes.ownedTupleHandOut (.ref z) (.ref g5.objs.size) >>= _) _ _ _ from Ra ?_
 unfold Builtin.SmallTypes.ownedTupleHandOut;have B:IsZip (g5.push { cls:=.type "tuple",data:=.seq #[x,y] }) z TI TO .ellipsis:=Qac _ h;refine Ra (wpAny_setField_rec B (by simp) λg7 (z7:IsZip g7 z TI TO (rawInt g5.objs.size)) s7=>wpAny_setField_rec z7 (by simp) λg8 (z8:IsZip g8 z TI TO (rawInt g5.objs.size)) s8=>?_);have up:∀c o,c≠z->g5.get? c=some o->g8.get? c=some o:=λc o c1 e=>s8.extBut _ _ c1 (s7.extBut _ _ c1 (Qac _ e));have t:IsPair g8 g5.objs.size x y:=s8.extBut _ _ (Qbu l) (s7.extBut _ _ (Qbu l) (Qas _ rfl));have n:g8.objs.size=g5.objs.size+1:=s8.1.trans (s7.1.trans (Qbp ..));rw[sz]at z8 t n;refine Rb ⟨_,rfl,?_⟩;show Q (.ref g5.objs.size) _;rw[sz];exact F g8 z8 (up _ _ D.TOz t5) (G.at λo e=>up _ o D.i1z e) (C6 H λo e=>up _ o D.i2z e) t n λc o c1 c2 c3 c4 e=>up c o c1 (k5 c o c1 c2 c3 c4 e)
def Z4M{z TI TO i1 i2 l1 l2:Af}{k1 k2:Nat}{xs ys:Ae Ad}{a b:Ad}{Q:Fin->Ac->Prop}(r:A.handled=none)(D:ZipApart z TI TO i1 i2 l1 l2)(f:IsZip s.heap z TI TO .none)(B:IsPair s.heap TI (.ref i1) (.ref i2))(u:IsPair s.heap TO a b)
  (h1:s.heap.IsListIter i1 l1 k1) (h2:IsTupIter s.heap i2 l2 k2) (i:s.heap.IsList l1 xs) (t:IsTup s.heap l2 ys) (l:xs[k1]?=none\/ys[k2]?=none)
  (p:∀h' e,(∀c o,c≠z->c≠TO->c≠i1->c≠i2->s.heap.get? c=some o->h'.get? c=some o)->(∃o,h'.get? e=some o/\o.cls=.type "StopIteration")->E (.ref e) { s with heap:=h' }) :
  wpAny (model prog w) A (Builtin.«zip.__next__» ⟨[.ref z],[]⟩) Q E s:=by
 refine show wpAny _ _ (field (.ref z) 2 >>= _) _ _ _ from Ra (wpAny_field f rfl (x:=.bool false) rfl (show wpAny _ _ (field (.ref z) 3 >>= _) _ _ _ from Ra (wpAny_field f rfl (x:=.ref TI) rfl (Ra (wpAny_seqItems B rfl (show wpAny _ _ (Builtin.SmallTypes.ownedTupleIsFree (.ref z) >>= _) _ _ _ from Ra ?_))))))
 unfold Builtin.SmallTypes.ownedTupleIsFree;refine Ra (wpAny_field f rfl (x:=.none) rfl (Rb ?_));simp only[Rk];refine Ra (wpAny_rule (Ra (wpAny_field f rfl (x:=.ref TO) rfl (Ra (wpAny_setField_rec f (by simp) λg1 (z1:IsZip g1 z TI TO .ellipsis) s1=>Ra ?_)))));simp only[List.zipIdx_cons,List.zipIdx_nil,Qbf,List.forIn_nil];refine Ra (Ra (wpAny_onRaise (show wpAny _ _ (Builtin.SmallTypes.nextOf (.ref i1) >>= _) _ _ _ from Ra ?_)))
 cases n:xs[k1]? with
 |none =>
  refine wpAny_nextOf_list_end r (h1.extBut s1.extBut D.i1z) (i.extBut s1.extBut D.l1z) n λg2 e s2 ⟨oe,ho,hc⟩=>?_;have y:IsZip g2 z TI TO .ellipsis:=s2 _ _ D.i1z.symm z1;have j:e≠z:=λq=>by subst q;rw[y]at ho;cases ho;simp at hc
  exact wpAny_setField_rec y (by simp) λg3 _ s3=>p g3 e (λc o c1 _ c3 _ q=>s3.extBut _ _ c1 (s2 _ _ c3 (s1.extBut _ _ c1 q))) ⟨oe,s3.extBut _ _ j ho,hc⟩
 |some x =>
  have C:ys[k2]?=none:=by
   rcases l with h|h
   .rw[n]at h;cases h
   .exact h
  refine wpAny_nextOf_list_item (h1.extBut s1.extBut D.i1z) (i.extBut s1.extBut D.l1z) n λg2 j1 s2=>Rb ?_;have t2:IsPair g2 TO a b:=s2.extBut _ _ D.TOi1 (s1.extBut _ _ D.TOz u);refine Ra (wpAny_seqItems t2 rfl (Ra (wpAny_updateSeq_pair t2 λg3 t3 s3=>Ra (wpAny_letGo (Rb ?_)))));refine Ra (Ra (wpAny_onRaise (show wpAny _ _ (Builtin.SmallTypes.nextOf (.ref i2) >>= _) _ _ _ from Ra ?_)))
  refine Z9P r (((h2.extBut s1.extBut D.i2z).extBut s2.extBut D.i12.symm).extBut s3.extBut D.TOi2.symm) (((t.extBut s1.extBut D.l2z).extBut s2.extBut D.l2i1).extBut s3.extBut D.l2TO) C λg4 e s4 ⟨oe,ho,hc⟩=>?_;have v:IsZip g4 z TI TO .ellipsis:=s4 _ _ D.i2z.symm (s3.extBut _ _ D.TOz.symm (s2.extBut _ _ D.i1z.symm z1));have j:e≠z:=λq=>by subst q;rw[v]at ho;cases ho;simp at hc
  exact wpAny_setField_rec v (by simp) λg5 _ s5=>p g5 e (λc o c1 c2 c3 c4 q=>s5.extBut _ _ c1 (s4 _ _ c4 (s3.extBut _ _ c2 (s2.extBut _ _ c3 (s1.extBut _ _ c1 q))))) ⟨oe,s5.extBut _ _ j ho,hc⟩
def Z4N{z TI TO i1 i2 l1 l2:Af}{k1 k2:Nat}{xs ys:Ae Ad}{x y a b:Ad}{Q:Aa Ad->Ac->Prop}(D:ZipApart z TI TO i1 i2 l1 l2)(n:IsZip s.heap z TI TO .none)(l:IsPair s.heap TI (.ref i1) (.ref i2))(i:IsPair s.heap TO a b)
  (h1:s.heap.IsListIter i1 l1 k1) (h2:IsTupIter s.heap i2 l2 k2) (j:s.heap.IsList l1 xs) (f:IsTup s.heap l2 ys) (p:xs[k1]?=some x) (r:ys[k2]?=some y)
  (q:∀h',IsZip h' z TI TO (rawInt s.heap.objs.size)->IsPair h' TO x y->h'.IsListIter i1 l1 (k1+1)->IsTupIter h' i2 l2 (k2+1)->IsPair h' s.heap.objs.size x y->h'.objs.size=s.heap.objs.size+1->(∀c o,c≠z->c≠TO->c≠i1->c≠i2->s.heap.get? c=some o->h'.get? c=some o)->Q (some (.ref s.heap.objs.size)) { s with heap:=h' }):wpAny (model prog w) A (pyNext (.ref z)) Q E s:=by
 have h:s.TypeIs (.ref z) "zip":=⟨_,n,rfl⟩;unfold pyNext;exact Ra (wpAny_attempt (wpAny_callSpecial?_slot (name:=Str.ofString "__next__") h F.slot_zip_next (Rf F.slot_zip_next h F.entry_zip_next (Z4O D n l i h1 h2 j f p r λh' a1 a2 a3 a4 a5 a6 a7=>Rb (q h' a1 a2 a3 a4 a5 a6 a7)) (F.args_zip_next_1 _))))
def Z4P{z TI TO i1 i2 l1 l2:Af}{k1 k2:Nat}{xs ys:Ae Ad}{a b:Ad}{Q:Aa Ad->Ac->Prop}(q:A.handled=none)(D:ZipApart z TI TO i1 i2 l1 l2)(p:IsZip s.heap z TI TO .none)(n:IsPair s.heap TI (.ref i1) (.ref i2))(j:IsPair s.heap TO a b)
  (h1:s.heap.IsListIter i1 l1 k1) (h2:IsTupIter s.heap i2 l2 k2) (l:s.heap.IsList l1 xs) (h:IsTup s.heap l2 ys) (f:xs[k1]?=none\/ys[k2]?=none)
  (r:∀h',(∀c o,c≠z->c≠TO->c≠i1->c≠i2->s.heap.get? c=some o->h'.get? c=some o)->Q none { s with heap:=h' }):wpAny (model prog w) A (pyNext (.ref z)) Q E s:=by
 have i:s.TypeIs (.ref z) "zip":=⟨_,p,rfl⟩;unfold pyNext;refine Ra (wpAny_attempt (wpAny_callSpecial?_slot (name:=Str.ofString "__next__") i F.slot_zip_next (Rf F.slot_zip_next i F.entry_zip_next (Z4M q D p n j h1 h2 l h f λh' e hk ⟨o,ho,hc⟩=>?_) (F.args_zip_next_1 _))));exact Ra (wpAny_isInstance (T := "StopIteration") (b:=true) ⟨o,ho,hc⟩ isSubtype_stop (Rb (r _ hk)))
end
abbrev zt1(h:Ah)(l1:Af):Ah:=h.push { cls:=.type "list_iterator",data:=.fields #[.ref l1,.int 0 0] }
abbrev zt2(h:Ah)(l1 l2:Af):Ah:=(zt1 h l1).push { cls:=.type "tuple_iterator",data:=.fields #[.ref l2,.int 0 0] }
abbrev zt3(h:Ah)(l1 l2:Af):Ah:=(zt2 h l1 l2).push { cls:=.type "tuple",data:=.seq #[.ref h.objs.size,.ref (zt1 h l1).objs.size] }
abbrev zt4(h:Ah)(l1 l2:Af):Ah:=(zt3 h l1 l2).push { cls:=.type "tuple",data:=.seq #[.none,.none] }
abbrev zt5(h:Ah)(l1 l2:Af):Ah:=(zt4 h l1 l2).push { cls:=.type "zip",data:=.fields #[.none,.bool false,.bool false,.ref (zt2 h l1 l2).objs.size,.ref (zt3 h l1 l2).objs.size] }
def IsTup.pushed(x:IsTup h a ak)(o:Obj):IsTup (h.push o) a ak:=let ⟨o',e,r⟩:=x;⟨o',Qac o e,r⟩
def Z6j(l1 l2:Af)(xs ys:Ae Ad):Meets (Builtin.«zip.__new__» ⟨[.type "zip",.ref l1,.ref l2],[]⟩) (λ_ R s=>s.heap.IsList l1 xs/\IsTup s.heap l2 ys/\R (.ok (.ret (.ref (zt4 s.heap l1 l2).objs.size))) { s with heap:=zt5 s.heap l1 l2 }) :=
 .of_wp λprog w A R s h=>by
  obtain⟨hp,g,d,tk,os⟩:=s;obtain⟨b,a,h⟩:=h;have f:=sub_zip;have j:Heap.IsList (Shared.heap ⟨hp,g,d,tk,os⟩) l1 xs:=b;have i:IsTup (Shared.heap ⟨hp.push { cls:=.type "list_iterator",data:=.fields #[.ref l1,.int 0 0] },g,d,tk,os⟩) l2 ys:=IsTup.pushed a _
  wp_walk using wpAny_pyIter_list j,iter_tuple i
  exact⟨_,rfl,h⟩
section
variable {prog:Aj}{w:Ak}{A:Ai}{E:Ad->Ac->Prop}{s:Ac}
def Z61(p:s.heap.IsList l1 xs)(n:IsTup s.heap l2 ys)
  (h:∀ h',IsZip h' (s.heap.objs.size + 4) (s.heap.objs.size + 2) (s.heap.objs.size + 3) .none->IsPair h' (s.heap.objs.size + 2) (.ref s.heap.objs.size) (.ref (s.heap.objs.size + 1))->IsPair h' (s.heap.objs.size + 3) .none .none->h'.IsListIter s.heap.objs.size l1 0->IsTupIter h' (s.heap.objs.size + 1) l2 0 ->
   (∀c o,s.heap.get? c=some o->h'.get? c=some o)->Q (.ref (s.heap.objs.size+4)) { s with heap:=h' }):wpAny (model prog w) A (call (.type "zip") [.ref l1,.ref l2]) Q E s:=by
 refine callType_new F.called_zip (by decide) (F.typeCall_zip_2 _ _) (F.newCall_zip_2 _ _) (λj=>F.args_object_init_3 j _ _) F.entry_zip_new (Z6j l1 l2 xs ys) ⟨p,n,?_⟩;have b:(zt1 s.heap l1).objs.size=s.heap.objs.size+1:=Qbp ..;have f:(zt2 s.heap l1 l2).objs.size=s.heap.objs.size+2:=by rw[Qbp,b]
 have i:(zt3 s.heap l1 l2).objs.size=s.heap.objs.size+3:=by rw[Qbp,f]
 have l:(zt4 s.heap l1 l2).objs.size=s.heap.objs.size+4:=by rw[Qbp,i]
 have a:(zt5 s.heap l1 l2).get? (zt4 s.heap l1 l2).objs.size=some _:=Qas _ rfl;have p4:(zt5 s.heap l1 l2).get? (zt3 s.heap l1 l2).objs.size=some _:=Qac _ (Qas _ rfl);have p3:(zt5 s.heap l1 l2).get? (zt2 s.heap l1 l2).objs.size=some _:=Qac _ (Qac _ (Qas _ rfl));have p2:(zt5 s.heap l1 l2).get? (zt1 s.heap l1).objs.size=some _:=Qac _ (Qac _ (Qac _ (Qas _ rfl)));have r:(zt5 s.heap l1 l2).get? s.heap.objs.size=some _:=Qac _ (Qac _ (Qac _ (Qac _ (Qas _ rfl))));show _/\_;rw[f,i,l]at a;rw[b,f]at p3;rw[i]at p4;rw[b]at p2;rw[l];exact⟨⟨_,a,rfl⟩,h _ a p3 p4 ⟨_,r,rfl,rfl⟩ ⟨_,p2,rfl,rfl⟩ λc o q=>Qac _ (Qac _ (Qac _ (Qac _ (Qac _ q))))⟩
end
def SqB(t:Bool)(K:Frag)(H:Hp)(b:Af)(ys:Ab V):Prop:=match t with|true=>SqT K H b ys|false=>SqL K H b ys
def ItB(t:Bool)(h:Ah)(it b:Af)(i:Nat):Prop:=match t with|true=>IsTupIter h it b i|false=>h.IsListIter it b i
def LsB(t:Bool)(h:Ah)(b:Af)(ak:Ae Ad):Prop:=match t with|true=>IsTup h b ak|false=>h.IsList b ak
def Z7J(x:ItB t h it b i)(k:∀o,h.get? it=some o->h'.get? it=some o):ItB t h' it b i:=by
 cases t
 .exact Heap.IsListIter.at x k
 .exact C6 x k
section
variable {X:Cx}{aa:Ab (Af×Obj)}{σ:L2.St}{H:Hp}{s:Ac}{t:Bool}{a:Af}{xs ys:Ab V}
def X5(I:Inv X aa σ H s)(h:SqB t X.K H a xs):∃ak:Ab Ad,Vals xs ak/\LsB t s.heap a ak.toArray/\xs.length<=sizeLine:=by
 cases t
 .obtain⟨i,r,p,z⟩:=I.list h;exact⟨i,r,p.isList,z⟩
 .exact I.tuple h
def Z8K(I:Inv X aa σ H s)(h:SqB t X.K H a xs)(h':SqB t X.K H a ys):xs=ys:=by
 cases t
 .exact I.list_inj h h'
 .exact I.tuple_inj h h'
end
section
variable {prog:Aj}{w:Ak}{A:Ai}{E:Ad->Ac->Prop}{s:Ac}{t:Bool}{z TI TO i1 i2 l1 l2:Af}{k1 k2:Nat}{xs ys:Ae Ad}{x y a b:Ad}
def Z8v(D:ZipApart z TI TO i1 i2 l1 l2)(n:IsZip s.heap z TI TO .none)(f:IsPair s.heap TI (.ref i1) (.ref i2))(i:IsPair s.heap TO a b)
  (h1:s.heap.IsListIter i1 l1 k1) (h2:ItB t s.heap i2 l2 k2) (j:s.heap.IsList l1 xs) (h:LsB t s.heap l2 ys) (p:xs[k1]?=some x) (l:ys[k2]?=some y)
  (q:∀h',IsZip h' z TI TO (rawInt s.heap.objs.size)->IsPair h' TO x y->h'.IsListIter i1 l1 (k1+1)->ItB t h' i2 l2 (k2+1)->IsPair h' s.heap.objs.size x y->h'.objs.size=s.heap.objs.size+1->(∀c o,c≠z->c≠TO->c≠i1->c≠i2->s.heap.get? c=some o->h'.get? c=some o)->Q (some (.ref s.heap.objs.size)) { s with heap:=h' }):wpAny (model prog w) A (pyNext (.ref z)) Q E s:=by
 cases t
 .exact wpAny_pyNext_zip_item D n f i h1 h2 j h p l q
 .exact Z4N D n f i h1 h2 j h p l q
def Z8w(p:A.handled=none)(D:ZipApart z TI TO i1 i2 l1 l2)(n:IsZip s.heap z TI TO .none)(h:IsPair s.heap TI (.ref i1) (.ref i2))(j:IsPair s.heap TO a b)
  (h1:s.heap.IsListIter i1 l1 k1) (h2:ItB t s.heap i2 l2 k2) (l:s.heap.IsList l1 xs) (i:LsB t s.heap l2 ys) (f:xs[k1]?=none\/ys[k2]?=none)
  (q:∀h',(∀c o,c≠z->c≠TO->c≠i1->c≠i2->s.heap.get? c=some o->h'.get? c=some o)->Q none { s with heap:=h' }):wpAny (model prog w) A (pyNext (.ref z)) Q E s:=by
 cases t
 .exact wpAny_pyNext_zip_end p D n h j h1 h2 l i f q
 .exact Z4P p D n h j h1 h2 l i f q
def Zan(i:s.heap.IsList l1 xs)(f:LsB t s.heap l2 ys)
  (h:∀ h',IsZip h' (s.heap.objs.size + 4) (s.heap.objs.size + 2) (s.heap.objs.size + 3) .none->IsPair h' (s.heap.objs.size + 2) (.ref s.heap.objs.size) (.ref (s.heap.objs.size + 1))->IsPair h' (s.heap.objs.size + 3) .none .none->h'.IsListIter s.heap.objs.size l1 0->ItB t h' (s.heap.objs.size + 1) l2 0 ->
   (∀c o,s.heap.get? c=some o->h'.get? c=some o)->Q (.ref (s.heap.objs.size+4)) { s with heap:=h' }):wpAny (model prog w) A (call (.type "zip") [.ref l1,.ref l2]) Q E s:=by
 cases t
 .exact call_zip_2 i f λh' a b c d e _=>h h' a b c d e
 .exact Z61 i f h
end
def Zcp(t:Bool)(K:Frag)(a b:Af):It :=
 ⟨fun i H => ∃ xs ys x y, SqL K H a xs /\ SqB t K H b ys /\ xs[i]? = some x /\ ys[i]? = some y,
  λi H v H'=>∃p x y,H p=none/\v=.ref p/\(∀xs,SqL K H a xs->xs[i]?=some x)/\(∀ys,SqB t K H b ys->ys[i]?=some y)/\H'=upd H p (.tup [x,y]),
  λi H=>∃xs ys,SqL K H a xs/\SqB t K H b ys/\(xs.length<=i\/ys.length<=i)⟩
def Z8C{t:Bool}{P:Aj}{w:Ak}{K:Frag}{elts:Ab Ag}{k1:Nat}{ai:Pos}(a b z TI TO i1 i2:Af)(D:ZipApart z TI TO i1 i2 a b) :
  O1 P w K (.Tuple elts k1 ai) (Zcp t K a b) [z,TI,TO,i1,i2] z (λi h=>IsZip h z TI TO .none/\IsPair h TI (.ref i1) (.ref i2)/\(∃u v,IsPair h TO u v)/\h.IsListIter i1 a i/\ItB t h i2 b i) where
 mem:=by simp
 obj:=λi h st c hc=>by
  obtain⟨F,G,⟨u,v,L⟩,h1,h2⟩:=st;simp only[Qab,Qa6,or_false]at hc;rcases hc with hc|hc|hc|hc|hc
  .rw[hc];exact⟨_,F,λv q=>by cases q⟩
  .rw[hc];exact⟨_,G,λv q=>by cases q⟩
  .rw[hc];exact⟨_,L,λv q=>by cases q⟩
  .rw[hc];obtain⟨o,e,c,d⟩:=h1;exact⟨o,e,λv q=>by rw[d]at q;cases q⟩
  .rw[hc];cases t<;>(obtain⟨o,e,c,d⟩:=h2;exact⟨o,e,λv q=>by rw[d]at q;cases q⟩)
 keep:=λi h h' ⟨F,G,⟨u,v,L⟩,h1,h2⟩ k=>⟨k z (by simp) _ F,k TI (by simp) _ G,⟨u,v,k TO (by simp) _ L⟩,h1.at λo q=>k i1 (by simp) o q,Z7J h2 λo q=>k i2 (by simp) o q⟩
 item:=by
  intro X hP hw W hc i aa s σ H E I B st U;subst hP hw W;obtain⟨xs,ys,x,y,M,N,S,hy⟩:=U;obtain⟨ak,T,p,hsz⟩:=I.list M;obtain⟨R,Q,p2,Z⟩:=X5 I N;obtain⟨u,hu,ru⟩:=T.get S;obtain⟨u2,hu2,ru2⟩:=Q.get hy;obtain⟨F,G,⟨ua,va,L⟩,h1,h2⟩:=st;have fz:=B z (by simp);have fO:=B TO (by simp);have f1:=B i1 (by simp);have l:=B i2 (by simp);refine Z8v D F G L h1 h2 p.isList p2 (x:=u) (y:=u2) (by simpa using hu) (by simpa using hu2) λh' a1 a2 a3 a4 a5 a6 hk=>?_;refine⟨_,rfl,wpAny_letOwnedTupleGo_zip (s:={ s with heap:=h' }) a1 λh'' hz'' hs''=>?_⟩;have C:H s.heap.objs.size=none:=I.fresh;have lt:∀b o,s.heap.get? b=some o->b≠s.heap.objs.size:=λb o q=>QaA (Qal q);have O:∀b o,b≠z->b≠TO->b≠i1->b≠i2->s.heap.get? b=some o->h''.get? b=some o:=λb o c1 c2 j f q=>(hs''.2 b c1).trans (hk b o c1 c2 j f q);have hzz:z≠s.heap.objs.size:=lt _ _ F;have J:∀b u,H b=some u->b≠z/\b≠TO/\b≠i1/\b≠i2:=λb u q=>⟨λw=>(by rw[w,fz.1]at q;cases q),λw=>(by rw[w,fO.1]at q;cases q),λw=>(by rw[w,f1.1]at q;cases q),λw=>(by rw[w,l.1]at q;cases q)⟩;have A:∀c,c∉[z,TO,i1,i2]->c≠z/\c≠TO/\c≠i1/\c≠i2:=λc hc=>by simpa using hc
  refine⟨.ref s.heap.objs.size,upd H s.heap.objs.size (.tup [x,y]),?_,rfl,⟨_,x,y,C,rfl,λzs hzs=>by rw[I.list_inj hzs M];exact S,λzs hzs=>by rw[Z8K I hzs N];exact hy,rfl⟩,
   ⟨hz'',(hs''.2 _ D.TIz).trans (hk _ _ D.TIz D.TITO D.TIi1 D.TIi2 G),⟨_,_,(hs''.2 _ D.TOz).trans a2⟩,a3.at λo q=>(hs''.2 i1 D.i1z).trans q,Z7J a4 λo q=>(hs''.2 i2 D.i2z).trans q⟩,λc hc=>?_⟩
  .refine Inv.step (s:=s) (h':=h'') (t':=s.toks) (H':=upd H s.heap.objs.size (.tup [x,y])) (g':=s.gens) (d':=s.drawn) (ch:=[z,TO,i1,i2]) I (λc hc=>?_)
    (λc o _ _ hc q _=>let ⟨c1,c2,j,f⟩:=A c hc;O c o c1 c2 j f q) (λc o _ _ hc q _=>let ⟨c1,c2,j,f⟩:=A c hc;⟨o.slots,O c o c1 c2 j f q⟩)
    (λc o _ q n=>by rw[aY (lt c o q)];exact n) (λc o hc q=>let ⟨c1,c2,j,f⟩:=A c hc;⟨o,O c o c1 c2 j f q⟩)
    (λc ys q=>by rw[aY (bL q C)];exact q) (λc o u q=>by rw[aY (bL q C)];exact q) (λc ps q=>⟨#[],by rw[aY (bL q C),q];simp⟩) (λm hm=>?_) (λc u q=>?_) I.bare
   .simp only[Qab,Qa6,or_false]at hc;rcases hc with hc|hc|hc|hc
    .rw[hc];exact⟨fz.2.2.2.1,fz.2.1,fz.2.2.2.2.1,fz.2.2.2.2.2⟩
    .rw[hc];exact⟨fO.2.2.2.1,fO.2.1,fO.2.2.2.2.1,fO.2.2.2.2.2⟩
    .rw[hc];exact⟨f1.2.2.2.1,f1.2.1,f1.2.2.2.2.1,f1.2.2.2.2.2⟩
    .rw[hc];exact⟨l.2.2.2.1,l.2.1,l.2.2.2.2.1,l.2.2.2.2.2⟩
   .obtain⟨o,es,ep,Y,r⟩:=hm;exact⟨o,es,ep,O _ o (Ne.symm fz.2.1) (Ne.symm fO.2.1) (Ne.symm f1.2.1) (Ne.symm l.2.1) Y,r⟩
   .by_cases hb:c=s.heap.objs.size
    .subst hb;rw[bC]at q;cases q;refine⟨by show 2<=sizeLine;decide,[u,u2],.cons ru (.cons ru2 .nil),_,(hs''.2 _ (Ne.symm hzz)).trans a5,rfl,_,rfl⟩
    .rw[aY hb]at q;refine(I.hok c u q).stay (λd v hc z=>?_) (λc z=>by rw[aY (bL z C)];exact z) λc ys z=>by rw[aY (bL z C)];exact z
     rcases hc with y|y
     .rw[y]at z ⊢;obtain⟨c1,c2,j,f⟩:=J c u q;exact O _ _ c1 c2 j f z
     .obtain⟨c1,c2,j,f⟩:=J d _ y;exact O _ _ c1 c2 j f z
  .have hb':c<s.heap.objs.size:=by
    simp only[Qab,Qa6,or_false]at hc;rcases hc with hc|hc|hc|hc|hc
    .rw[hc];exact Qal F
    .rw[hc];exact Qal G
    .rw[hc];exact Qal L
    .rw[hc];obtain⟨o,q,_⟩:=h1;exact Qal q
    .rw[hc];cases t<;>(obtain⟨o,q,_⟩:=h2;exact Qal q)
   rw[aY (QaA hb')];exact(B c hc).1
 done:=by
  intro X hP hw W hc i aa s σ H E I B st U;subst hP hw W;obtain⟨xs,ys,M,N,S⟩:=U;obtain⟨ak,T,p,hsz⟩:=I.list M;obtain⟨R,Q,p2,Z⟩:=X5 I N;obtain⟨F,G,⟨ua,va,L⟩,h1,h2⟩:=st;have hl:=T.length;have hl2:=Q.length;have fz:=B z (by simp);have fO:=B TO (by simp);have f1:=B i1 (by simp);have l:=B i2 (by simp);have a0:ak.toArray[i]?=none\/R.toArray[i]?=none:=by
   rcases S with z|z
   .left;simp;omega
   .right;simp;omega
  have A:∀c,c∉[z,TO,i1,i2]->c≠z/\c≠TO/\c≠i1/\c≠i2:=λc hc=>by simpa using hc
  have J:∀b u,H b=some u->b≠z/\b≠TO/\b≠i1/\b≠i2:=λb u q=>⟨λw=>(by rw[w,fz.1]at q;cases q),λw=>(by rw[w,fO.1]at q;cases q),λw=>(by rw[w,f1.1]at q;cases q),λw=>(by rw[w,l.1]at q;cases q)⟩;refine Z8w (I.ok.hd hc) D F G L h1 h2 p.isList p2 a0 λh' hk=>⟨rfl,?_⟩;refine Inv.step (s:=s) (h':=h') (t':=s.toks) (H':=H) (g':=s.gens) (d':=s.drawn) (ch:=[z,TO,i1,i2]) I (λc hc=>?_)
   (λc o _ _ hc q _=>let ⟨c1,c2,j,f⟩:=A c hc;hk c o c1 c2 j f q) (λc o _ _ hc q _=>let ⟨c1,c2,j,f⟩:=A c hc;⟨o.slots,hk c o c1 c2 j f q⟩)
   (λc o _ q n=>n) (λc o hc q=>let ⟨c1,c2,j,f⟩:=A c hc;⟨o,hk c o c1 c2 j f q⟩)
   (λc ys q=>q) (λc o u q=>q) (λc ps q=>⟨#[],by rw[q];simp⟩) (λm hm=>?_) (λc u q=>?_) I.bare
  .simp only[Qab,Qa6,or_false]at hc;rcases hc with hc|hc|hc|hc
   .rw[hc];exact⟨fz.2.2.2.1,fz.2.1,fz.2.2.2.2.1,fz.2.2.2.2.2⟩
   .rw[hc];exact⟨fO.2.2.2.1,fO.2.1,fO.2.2.2.2.1,fO.2.2.2.2.2⟩
   .rw[hc];exact⟨f1.2.2.2.1,f1.2.1,f1.2.2.2.2.1,f1.2.2.2.2.2⟩
   .rw[hc];exact⟨l.2.2.2.1,l.2.1,l.2.2.2.2.1,l.2.2.2.2.2⟩
  .obtain⟨o,es,ep,Y,r⟩:=hm;exact⟨o,es,ep,hk _ o (Ne.symm fz.2.1) (Ne.symm fO.2.1) (Ne.symm f1.2.1) (Ne.symm l.2.1) Y,r⟩
  .refine(I.hok c u q).stay (λd v hc z=>?_) (λc z=>z) λc ys z=>z;rcases hc with y|y
   .rw[y]at z ⊢;obtain⟨c1,c2,j,f⟩:=J c u q;exact hk _ _ c1 c2 j f z
   .obtain⟨c1,c2,j,f⟩:=J d _ y;exact hk _ _ c1 c2 j f z
 self:=λ_ _ _ _ _ st h=>wpAny_pyIter_zip st.1 h
section
variable {X:Cx}{elts:Ab Ag}{k1:Nat}{tpos:Pos}
def iZB(t:Bool)(K:Frag)(ta:TA):TI:=λσ H R=>ta σ H λvs H1=>∃a b,vs=[.ref a,.ref b]/\(∃xs,SqL K H1 a xs)/\(∃ys,SqB t K H1 b ys)/\R (Zcp t K a b) H1
def Zd5{t:Bool}{l l2:Ag}{ta:TA}{p ai:Pos}(x:Gl X "zip")(y:X.mg "zip" = none)(v:PA X [l,l2] ta)(hs:starEach [l,l2] X.env=[(false,eval l X.env),(false,eval l2 X.env)]:=by rfl)(i:starEach [l2] X.env=[(false,eval l2 X.env)]:=by rfl) :
  PI X (.Tuple elts k1 tpos) (.Call (.Name "zip" p) [l,l2] [] ai) (iZB t X.K ta):=by
 intro aa s σ H R I h;refine Call_ (uU I x y Z8j (PyProof.Rows.callWith_type1 (thn (v ai aa s σ H _ I h) λus s1 ⟨vs,H1,I1,r1,q1⟩=>?_) (by rw[hs,i]) (by rw[i];rfl)));obtain⟨a,b,rfl,⟨xs,n⟩,⟨ys,u⟩,q⟩:=q1;cases r1 with
 |cons r rr =>
  cases rr with
  |cons r' rr =>
   cases rr;cases r;cases r';obtain⟨ak,G,pl,J⟩:=I1.list n;obtain⟨B,F,f,E⟩:=X5 I1 u;have w:a<s1.heap.objs.size:=by obtain⟨o,e,_⟩:=pl.isList;exact Qal e
   have C:b<s1.heap.objs.size:=by cases t<;>(obtain⟨o,e,_⟩:=f;exact Qal e)
   refine Zan pl.isList f λh' hzp hTI hTO hi1 hi2 hk=>?_;refine wpAny_pyIter_zip (s:={ s1 with heap:=h' }) hzp ?_;have A:Inv X aa σ H1 { s1 with heap:=h' }:=I1.kept (t':=s1.toks) hk;refine⟨s1.heap.objs.size+4,[s1.heap.objs.size+4,s1.heap.objs.size+2,s1.heap.objs.size+3,s1.heap.objs.size,s1.heap.objs.size+1],_,_,H1,rfl,A,Z8C (t:=t) a b _ _ _ _ _ (zipApart_new w C),⟨hzp,hTI,⟨_,_,hTO⟩,hi1,hi2⟩,λc hc=>?_,q⟩;have j:s1.heap.objs.size<=c:=by
    simp only[Qab,Qa6,or_false]at hc;rcases hc with hc|hc|hc|hc|hc<;>(rw[hc];first|exact Qap _|exact Nat.le_add_right _ _)
   exact I1.fpOk j (I1.hok.fresh j)
end
end L2
namespace PD
open PySem PySem.Spec PyProof.Rows L2
section
variable {X:Cx}{m1:Bool}{rs:Ab Nat}{a b c:Ag}{fs:En->Aa (Ab D)}{ai:Pos}
def dB:Bool->Ab D->D
 |true,ys=>.tup ys
 |false,ys=>.lst ys
def Z6U{t:Bool}{K:Frag}{H:Hp}{ys:Ab D}{v:V}{fp:Ab Af}(h:Rep K false H (dB t ys) v fp):∃p vs f',v=.ref p/\SqB t K H p vs/\Reps K false H ys vs f'/\∀c∈f',c∈fp:=by
 cases t
 .obtain⟨p,vs,f,e,q,r,s⟩:=cB h;exact⟨p,vs,f,e,q,r,s⟩
 .simp only[dB,Rep]at h;obtain⟨p,vs,e,q,r⟩:=h;exact⟨p,vs,_,e,q,r,λc hc=>hc⟩
def Z7S{t:Bool}{K:Frag}{H0:Hp}{xs ys:Ab D}{a b:Af}{f1 E:Ab Af}(Q:Rep K false H0 (.lst xs) (.ref a) f1)(P:Rep K false H0 (dB t ys) (.ref b) E):zM K (Zcp t K a b) H0 (qI xs ys) (f1++E):=λH k i=>by
 have T:=Rep.keep _ _ _ (k.sub λb hb=>Qar _ hb) Q;have S:=Rep.keep _ _ _ (k.sub λb hb=>Qae _ hb) P;obtain⟨p,vs,fp',e,l,I,A⟩:=cB T;cases e;obtain⟨U,j,R,e,h,r,n⟩:=Z6U S;cases e;refine⟨λd hd=>?_,λM=>⟨vs,j,l,h,by rw[I.length,r.length];rw[Z0Z]at M;omega⟩⟩;rw[Z10]at hd;split at hd
 .rename_i x y N L;cases hd;obtain⟨v,f,h1,h2,h3,_⟩:=I.get N;obtain⟨u,f',o,G,B,_⟩:=r.get L;refine⟨⟨vs,j,v,u,l,h,h1,o⟩,λx H' y=>?_⟩;obtain⟨q,w,w',hq,rfl,O,J,rfl⟩:=y;have C:=O vs l;rw[h1]at C;cases C;have F:=J j h;rw[o]at F;cases F;refine⟨bV hq,f++f',xW hq ?_,λc hc=>?_⟩
  .simp only[Reps];exact⟨v,[u],f,f',rfl,rfl,h2,u,[],f',[],rfl,by simp,G,rfl,rfl⟩
  .rcases Qaf.mp hc with z|z
   .exact Qar _ (A c (h3 c z))
   .exact Qae _ (n c (B c z))
 .cases hd
def O2:Ab D->Aa (Ab D)
 |[.lst xs,.tup ys]=>some (qI xs ys)
 |_=>none
def FZB:Bool->Ab D->Aa (Ab D)
 |true=>O2
 |false=>Z6f
def fzB(e:FZB t xs=some ds):∃u v,xs=[.lst u,dB t v]/\qI u v=ds:=by
 cases t <;> (simp only [FZB, Z6f, O2] at e; split at e; · cases e; exact ⟨_, _, rfl, rfl⟩
              . cases e)
def Z41{t:Bool}{elts:Ab Ag}{k1:Nat}{tpos p:Pos}(A:Gl X "zip")(C:X.mg "zip" = none)(w:QA X m1 rs [a,b] fs)(hs:starEach [a,b] X.env=[(false,eval a X.env),(false,eval b X.env)]:=by rfl)(l:starEach [b] X.env=[(false,eval b X.env)]:=by rfl) :
  QI X (.Tuple elts k1 tpos) rs (.Call (.Name "zip" p) [a,b] [] ai) (sB1 (FZB t) fs) :=
 .mk (Zd5 A C w hs l) λσ H R ⟨ac,F,ds,ok,e,q⟩=>by
  unfold sB1 at e;cases h1:fs ac with
  |none=>simp only[h1]at e;cases e
  |some xs =>
   simp only[h1,Qa8]at e;obtain⟨I,J,rfl,rfl⟩:=fzB e
   .refine⟨ac,F,_,ok,h1,λvs H' fp s r c=>?_⟩;obtain⟨v,L,f,f',rfl,o,B,rfl⟩:=ZaM r;have i:=Rep.weak _ _ _ o;have h:=Rep.weak _ _ _ B;obtain⟨p,ws,fp',rfl,n,K,y⟩:=cB o;obtain⟨x,ws',E,rfl,j,G,u⟩:=Z6U h;refine⟨p,x,rfl,⟨ws,n⟩,⟨ws',j⟩,q _ H' (f++f') s (Z7S i h) (λc hc=>?_) ⟨c.1,λz=>(by cases z)⟩⟩;rcases Qaf.mp hc with z|z
    .exact Rep.dom _ _ _ i c z
    .exact Rep.dom _ _ _ h c z
end
def HD(K:Frag)(x:Str)(st:Stmt)(f:Af):Prop:=nsIn K mainGlobals x=some (some (.ref f))/\(∃oc od kV doc pm an cd ct sl,K.lookup f=some ⟨oc,od,.func (fnOf x x (eV st) (cN st) (aS st) .none kV doc pm an cd ct),sl⟩/\codeIn K cd x=true)/\keepIn K (.ref f)=true
def HU(x:Str)(st:Stmt)(ps:Ab Str):Prop:=∀(r:Ad×Ad×Ad×Aa Af×Ad×Ad) (us:Ab Ad),us.length=ps.length->bindArgs (fnOf x x (eV st) (cN st) (aS st) .none r.1 r.2.1 r.2.2.1 r.2.2.2.1 r.2.2.2.2.1 r.2.2.2.2.2) ⟨us,[]⟩=pure (ps.zip us)
def HX(P:Aj)(w:Ak)(K:Frag)(mg:Str->Aa Ad)(ad:Ah):Prop:=∃hh:Ah,K.In hh/\hh.Ns mainGlobals mg
section
variable {K:Frag}{x:Str}{st:Stmt}{f:Af}{ps:Ab Str}{P:Aj}{w:Ak}{mg:Str->Aa Ad}{ad:Ah}{k n:Nat}
def HD.mk{h kV b n cd ct:Ad}{i an:Aa Af}{j:Ae (Aa Ad)}(a:nsIn K mainGlobals x=some (some (.ref f)))(l:K.lookup f=some ⟨h,i,.func (fnOf x x (eV st) (cN st) (aS st) .none kV b n an cd ct),j⟩)
  (c:codeIn K cd x=true) (k:keepIn K (.ref f)=true):HD K x st f:=⟨a,⟨h,i,kV,b,n,an,cd,ct,j,l,c⟩,k⟩
def HD.use(h:HD K x st f)(Y:HX P w K mg ad)(i:HU x st ps) :
  ∃fd,FunD K x x st f fd/\mg x=some (.ref f)/\keepIn K (.ref f)=true/\Binds K fd ps []:=by
 obtain⟨a,⟨n,p,kV,b,j,an,cd,ct,o,l,c⟩,k⟩:=h;obtain⟨_,X,G⟩:=Y;exact⟨_,wK l c k,mg_of X G a,k,.all (i (kV,b,j,an,cd,ct))⟩
def HD.c(h:HD K x st f)(Y:HX P w K mg ad)
  (ok:∀fd,FunD K x x st f fd->jK P w K mg ad CX0 k f fd ps (spD K n F')) (j:HU x st ps):bB P w K mg ad x [] k n F':=by
 obtain⟨fd,F,a,i,b⟩:=h.use Y j;exact⟨⟨f,fd,ps,[],[],ok fd F,a,i,b,.nil,λH=>by simp only[Reps];exact⟨trivial,trivial⟩⟩⟩
end
def tO(t:Ab (Af×Bool))(fa:En->Aa D):En->Aa D:=λac=>match fa ac with
 |some (.exc C)=>(t.find? λp=>decide (p.1=C)).map λp=>.bl p.2
 |_=>none
section
variable {X:Cx}{E:XK}{m m1:Bool}{rs rs1:Ab Nat}{a e:Ag}{f fa:En->Aa D}{ai p:Pos}{pre:En->Bool}
def xO(h:∀p∈t,QE X m rs e (Z5W p.1 p.2 fa)):QE X m rs e (tO t fa):=λaa s σ H Q I q=>by
 obtain⟨ac,F,d,ok,a,q⟩:=q;unfold tO at a;split at a
 .rename_i C h1;cases b:t.find? λp=>decide (p.1=C) with
  |none=>rw[b]at a;cases a
  |some p =>
   rw[b]at a;cases a;have hp:=List.find?_some b;simp only[Rj]at hp;exact h p (List.mem_of_find?_eq_some b) aa s σ H Q I ⟨ac,F,_,ok,by unfold Z5W;rw[h1];simp[hp],q⟩
 .cases a
def Z37{α:Type}{Z:α->Prop}{x y z:α}(h1:Z x)(h2:Z y)(h3:Z z):∀p∈[x,y,z],Z p:=λp hp=>by
 simp only[Qab,Qa6,or_false]at hp;rcases hp with rfl|rfl|rfl
 .exact h1
 .exact h2
 .exact h3
def Z7m(i:QE X m1 rs1 a fa)(b:PE X e (tXE X.K E pre f))(h1:starEach [a,e] X.env=(false,eval a X.env)::starEach [e] X.env:=by rfl)(h2:starEach [e] X.env=(false,eval e X.env)::starEach [] X.env:=by rfl):PE X (.Tuple [a,e] x1 ai) (tXE X.K E (tM fa pre) f) :=
 PE.mono (pe_tup (pa_cons i (pa_cons b pa_nil h2) h1)) λσ H Q ⟨ac,F,C,ok,h,hp,q⟩=>by
  unfold tM at hp;rw[Qak]at hp;obtain⟨d,hd⟩:=QaW.mp hp.1;exact⟨ac,F,d,ok,hd,λv H1 fp s r c=>⟨ac,F,C,ok.same s,h,hp.2,λH' s'=>q H' (s.trans s')⟩⟩
end
def Z4p{K:Frag}{H:Hp}{ws:Ab D}{fw:Ab Af}(W:Hw K H [] ws fw):ws=[]/\fw=[]:=by
 have h:=W.rep;cases ws with
 |nil=>simp only[Qa5,Reps]at h;exact⟨rfl,h.2⟩
 |cons w r =>
  simp only[Qa5,Reps]at h;obtain⟨v,a,_,_,e,_⟩:=h;cases e
def Z0o:Hid H []=H:=by funext b;exact bW (by simp)
def Zd1{X:Cx}{sts:Ab Stmt}{g:En->Ab D->Res×Ab D}(h:QSsg X [] sts g):QSs X sts (λac=>(g ac []).1):=λaa s σ H E I ⟨P,ac,IS,q⟩=>h aa s σ H E I (by
 refine⟨P,ac,[],⟨[],⟨by simp only[Qa5,Reps];exact⟨trivial,trivial⟩,QaD,rfl⟩,by rw[Z0o];exact IS⟩,?_⟩;have b:∀{σ':L2.St}{H':Hp}{env':En}{ws:Ab D},SInvG X.K P H' σ' env' [] ws->SInv X.K P H' σ' env':=λ⟨fw,W,a⟩=>by
  obtain⟨_,rfl⟩:=Z4p W;rw[Z0o]at a;exact a
 have q:Post X.K P E (g ac []).1:=q
 revert q
 generalize (g ac []).1=r;intro q;cases r with
 |next e'=>exact λσ' H' J=>q σ' H' (b J)
 |ret d =>
  intro v H' fp fw W s1 f j i;obtain⟨_,rfl⟩:=Z4p W;rw[Z0o]at s1 f;exact q v H' fp s1 f j i
 |brk e'=>exact λσ' H' J=>q σ' H' (b J)
 |cont e'=>exact λσ' H' J=>q σ' H' (b J)
 |bad=>exact q)
def gS(g:En->Res):En->Ab D->Res×Ab D:=λac ws=>(g ac,ws)
def iO{X:Cx}{A:Ab Af}{st:Stmt}{g:En->Res}(h:QS X st g):QSg X A st (gS g):=ZbD h
section
variable {K:Frag}{x:Str}{st:Stmt}{f:Af}{ps:Ab Str}{P:Aj}{w:Ak}{mg:Str->Aa Ad}{ad:Ah}{k n:Nat}{C B:Af}
def HD.e(h:HD K x st f)(Y:HX P w K mg ad)
  (ok:∀fd,FunD K x x st f fd->jK P w K mg ad (CXe P w) k f fd ps (spE K n F')) (j:HU x st ps):dE P w K mg ad x [] k n F':=by
 obtain⟨fd,F,a,i,b⟩:=h.use Y j;exact⟨⟨f,fd,ps,[],[],ok fd F,a,i,b,.nil,λH=>by simp only[Reps];exact⟨trivial,trivial⟩⟩⟩
theorem HD.g{g:Af->D->Ab D->Aa (D×D)}(h:HD K x st f)(Y:HX P w K mg ad)
  (ok:∀fd,FunD K x x st f fd->jK P w K mg ad CX0 k f fd ps (spG K n g)) (j:HU x st ps):C0 P w K mg ad x k n g:=by
 obtain⟨fd,F,a,i,b⟩:=h.use Y j;exact⟨⟨f,fd,ps,ok fd F,a,i,b⟩⟩
def Zah(hc:PySem.W.clsIn K B=some cd)(f:PySem.W.typeIn K (.ref B)=some (.type "type"))(hs:PySem.W.subIn K (.ref C) (.ref B)=some b)(a:PySem.W.subIn K (.ref B) (.type "BaseException")=some true):PySem.W.exmOne K (.ref C) (.ref B)=some b:=by
 unfold PySem.W.exmOne PySem.W.kitCls;rw[a];simp[hc,f,hs]
end
def TupK(K:Frag)(a:Af)(xs:Ab V):Prop:=∃(o:Obj) (ak:Ae Ad) (n:Nat),K.lookup a=some o/\o.cls=.type "tuple" /\ o.data=.seq ak n/\ak.size<=sizeLine/\Vals xs ak.toList
def TupK.sq{K:Frag}{H:Hp}{a:Af}{xs:Ab V}(h:TupK K a xs):SqT K H a xs:=.inr h
def esT(K:Frag)(P:Aj)(w:Ak):Ab (Ab Key×Ab Str)->Ab DictEntry->Prop
 |[],[]=>True
 |p::kvs,e::es=>(∃b c,e=⟨tupleKeyHash (fE P w) p.1,.ref b,.ref c⟩/\TupK K b (p.1.map kV)/\TupK K c (p.2.map V.str))/\esT K P w kvs es
 |_,_=>False
structure Zb0(K:Frag)(P:Program)(w:World)(mg:Str->Option Value)(name:Str)(kvs:List (List Key×List Str)):Prop where
 ex:∃a es n,mg name=some (.ref a)/\K.lookup a=some ⟨.type "dict",none,.dict es n,#[]⟩/\(a==sysModules)=false/\esT K P w kvs es.toList/\(kvs.map (·.1)).Nodup
def lkT(kvs:Ab (Ab Key×Ab Str))(k:Ab Key):Aa (Ab Str):=(kvs.find? λp=>decide (p.1=k)).map (·.2)
theorem Z4E{K:Frag}{P:Aj}{w:Ak}:∀{kvs:Ab (Ab Key×Ab Str)}{es:Ab DictEntry},esT K P w kvs es->∃xs:Ab (Ab Key×Af×Ad),es=xs.map (entryOfKey (tupleKind (fE P w)))/\xs.map (·.1)=kvs.map (·.1)/\(∀x∈xs,TupK K x.2.1 (x.1.map kV)) /\
  ∀k,match lkT kvs k with
   |some ss=>∃b c,atKey xs k=some (b,.ref c)/\TupK K c (ss.map V.str)
   |none=>atKey xs k=none
 |[],[],_=>⟨[],rfl,rfl,λx hx=>(by cases hx),λk=>rfl⟩
 |[],_::_,h=>h.elim
 |_::_,[],h=>h.elim
 |p::kvs,e::es,⟨⟨b,c,he,hb,hc⟩,r⟩=>by
  obtain⟨xs,i,j,l,f⟩:=Z4E r;refine⟨(p.1,b,.ref c)::xs,by rw[i,he];rfl,by simp[j],λx hx=>?_,λk=>?_⟩
  .rcases Qab.mp hx with rfl|hx
   .exact hb
   .exact l x hx
  .by_cases a:p.1=k
   .have h1:lkT (p::kvs) k=some p.2:=by simp[lkT,QaR,a]
    have h2:atKey ((p.1,b,Value.ref c)::xs) k=some (b,.ref c):=by simp[atKey,QaR,a]
    rw[h1,h2];exact⟨b,c,rfl,hc⟩
   .have h1:lkT (p::kvs) k=lkT kvs k:=by simp[lkT,QaR,a]
    have h2:atKey ((p.1,b,Value.ref c)::xs) k=atKey xs k:=by simp[atKey,QaR,a]
    rw[h1,h2];exact f k
theorem Z4h{K:Frag}{m:Bool}{H:Hp}:∀(a:Ab Str),Reps K m H (a.map D.str) (a.map V.str) []
 |[]=>gY
 |s::a=>Reps.consR (f1:=[]) nU (Z4h a)
def Z2s(kvs:Ab (Ab Key×Ab Str)):Ab D->Aa D
 |[.tup kd]=>match Z1J kd with
  |some k=>some (match lkT kvs k with|some ss=>.tup (ss.map D.str)|none=>.non)
  |none=>none
 |_=>none
section
variable {X:Cx}{m m1:Bool}{rs rs1:Ab Nat}{e:Ag}{fe:En->Aa D}{p apos cpos:Pos}{nm:Str}{kvs:Ab (Ab Key×Ab Str)}
def Z9n(Y:X.A.units+1<cLine)(T:Zb0 X.K X.prog X.w X.mg nm kvs)(Z:Gl X nm)(he:QE X m1 rs1 e fe)(O:nDb nm:=by decide)(o:attributeBase (.Name nm p) "get" X.env (eval (.Name nm p) X.env)=eval (.Name nm p) X.env:=by rfl)
  (E:((backTo cpos (starEach [e] X.env)).all (fun x=>!x.1) && (backToKw cpos (keywordEach [] X.env)).all (fun x=>x.1.isSome)
   && decide ([e].length+([]:Ab Keyword).length+(if ([]:Ab Keyword).isEmpty then 0 else 1)<30))=true:=by rfl)
  (l:(apos.endLine==cpos.line)=true:=by rfl) (i:backTo cpos (starEach [e] X.env)=[(false,eval e X.env)]:=by rfl) :
  QE X m rs (.Call (.Attribute (.Name nm p) "get" apos) [e] [] cpos) (λac=>(aA fe aF ac).bind (Z2s kvs)):=by
 intro aa s σ H Q I ⟨ac,F,d,ok,ee,q⟩;obtain⟨a,es,n,hm,N,lo,L,R⟩:=T.ex;obtain⟨xs,U,x2,W,x4⟩:=Z4E L;have M:∀{s':Ac}{H':Hp},Inv X aa σ H' s'->s'.heap.DictOfH (tupleKind (fE X.prog X.w)) a xs:=λP=>⟨_,es,n,P.kIn _ _ N,⟨rfl,rfl,rfl⟩,rfl,U,λx j=>ZaX P (W x j).sq,by rw[x2];exact R⟩;refine wpAny_Call_method o E l PySem.F.plainAttrs_dict PySem.F.slot_dict_get PySem.F.type_dict_get (thn (sO (v:=.ref a) Z hm rfl O aa s σ H (λv H1=>v=.ref a/\H1=H) I ⟨rfl,rfl⟩) λu s1 ⟨x,H1,I1,rx,⟨ex,eH⟩⟩=>?_);subst ex eH;obtain rfl:u=Value.ref a:=rx;have G:=M I1;refine⟨G.typeIs,λb e=>by cases e;exact⟨_,I1.kIn _ _ N,rfl⟩,?_⟩;rw[i];cases h1:fe ac with
 |none=>simp only[aA,h1]at ee;cases ee
 |some dx =>
  simp only[aA,aF,h1,Qa8]at ee;cases dx with
  |tup kd =>
   simp only[Z2s]at ee;cases h:Z1J kd with
   |none=>rw[h]at ee;cases ee
   |some k =>
    rw[h]at ee;dsimp only at ee;refine Calls.callWith_builtin rfl (Calls.evalArgs_plain (Calls.spliced_cons (thn (he aa s1 σ H1 (λv H2=>∃b,v=.ref b/\SqT X.K H2 b (k.map kV)/\Same H1 H2) I1 ⟨ac,F,_,ok,h1,λv H2 fp s2 r c=>?_⟩) λiv s2 ⟨y,H2,I2,ry,b,ey,hb,sm⟩=>Calls.spliced_nil ?_)))
    .simp only[Rep]at r;obtain⟨b,S,rfl,B,J⟩:=r;rw[K2 h J]at B;exact⟨b,rfl,B,s2⟩
    .subst ey;obtain rfl:iv=Value.ref b:=ry;have t:=M I2;refine call_meetsIn PySem.F.slot_dict_get t.typeIs PySem.F.entry_dict_get (PySem.F.args_dict_get_2 _ _) (meetsH_dict_get (tupleKind (fE X.prog X.w)) a b lo) ⟨tupleKind_room_in1 Y,k,xs,ZaX I2 hb,t,?_⟩;have f:=x4 k;cases j:lkT kvs k with
     |none =>
      rw[j]at f ee;have C:d=.non:=(QaF ee).symm;subst C;rw[f];exact⟨.non,H2,I2.tok _,rfl,q _ H2 [] sm pB .nil⟩
     |some ss =>
      rw[j]at f ee;have C:d=.tup (ss.map D.str):=(QaF ee).symm;subst C;obtain⟨b',c',f,hc⟩:=f;rw[f];exact⟨.ref c',H2,I2.tok _,rfl,q _ H2 [] sm (by simp only[Rep];exact⟨c',_,rfl,hc.sq,Z4h ss⟩) .nil⟩
  |_=>simp only[Z2s]at ee;cases ee
end
section
variable {g h k:En->Ab D->Res×Ab D}{g0:En->Res}{ac e:En}{ws w1:Ab D}{d:D}{f:En->Aa D}{c:En->Aa Bool}{i:Nat}{r:Res×Ab D}{a:Af}{t:En->Ab D->Aa (Bool×Ab D)}
def uB(h1:g ac ws=(.next e,w1))(q:k e w1=r):dC g k ac ws=r:=by unfold dC;rw[h1];exact q
def ZaT(h1:g ac ws=(.ret d,w1)):dC g k ac ws=(.ret d,w1):=by unfold dC;rw[h1]
def Za7(h1:g0 ac=.next e)(q:k e ws=r):dC (gS g0) k ac ws=r:=uB (by unfold gS;rw[h1]) q
def Zea(h1:g0 ac=.ret d):dC (gS g0) k ac ws=(.ret d,ws):=ZaT (by unfold gS;rw[h1])
def zC(h1:f ac=some d)(q:k (ac.set i (some (true,d))) ws=r):dC (gS (bJ i f)) k ac ws=r:=Za7 (by unfold bJ;rw[h1]) q
def Zeb(h1:c ac=some true)(q:g ac ws=r):qR (zZ c) g h ac ws=r:=by unfold qR zZ;rw[h1];exact q
def Zec(h1:c ac=some false)(q:h ac ws=r):qR (zZ c) g h ac ws=r:=by unfold qR zZ;rw[h1];exact q
def gNo(h1:c ac=some false)(q:k ac ws=r):dC (qR (zZ c) g (gS aX)) k ac ws=r:=uB (Zec h1 rfl) q
def Zdm(h1:c ac=some true)(q:g ac ws=(.ret d,w1)):dC (qR (zZ c) g h) k ac ws=(.ret d,w1):=ZaT (Zeb h1 q)
def Zcb(h1:f ac=some d):gS (aZ f) ac ws=(.ret d,ws):=by unfold gS aZ;rw[h1]
def Za8(h1:fs ac=some (.fn a [] []::ds))(h2:G a w ds=some (d,w')):Z5U [a] 0 G fs ac [w]=some (d,[w']):=by
 unfold Z5U;rw[h1];simp[h2]
def Z7Y(h1:ga ac ws=some (d,w1))(h2:f ac=some y)(h3:eqN 8 d y=some b):gEq neg ga f ac ws=some (if neg then !b else b,w1):=by
 unfold gEq;rw[h1];simp only[h2,h3,QaK]
def Z2Q(h1:t ac ws=some (false,w1))(q:h ac w1=r):qR t g h ac ws=r:=by unfold qR;rw[h1];exact q
def Z6Y(h1:ga ac ws=some (d,w1)):E8 ga ac ws=(.ret d,w1):=by unfold E8;rw[h1]
def Z1D(h1:g ac ws=(.ret d,w1))(hd:∀C,d ≠ .exc C):zV g ac ws=(.ret d,w1):=by
 unfold zV;rw[h1];cases d<;>first|rfl|exact absurd rfl (hd _)
def sQ(h1:g ac ws=(.next e,w1)):zV g ac ws=(.next e,w1):=by unfold zV;rw[h1];rfl
def E9(h1:f (φ ac ws)=some (.exc C))(hp:pre (φ ac ws)=true):uN φ pre f g ac ws=(.ret (.exc C),ws):=by unfold uN;rw[h1];exact if_pos hp
def qP(h1:f (φ ac ws)=some d)(hd:∀C,d ≠ .exc C):uN φ pre f g ac ws=zV g ac ws:=by
 unfold uN;split
 .rename_i C h2;rw[h1]at h2;cases h2;exact absurd rfl (hd C)
 .rfl
def Z70(h1:ga ac ws=some (d,[.obj CD ns ds]))(h2:ns.length<100)(h3:pln d=true)(b:ac[i]?=some (some (o,.fn a [] [])))(f:oH nm d ns ds=some (ns',ds')) :
  F0 CD a i nm ga ac ws=(.next ac,[.obj CD ns' ds']):=by
 unfold F0;rw[h1];simp only;rw[if_pos ⟨rfl,h2,h3,o,b⟩,f]
theorem Z4u(I:Nat->En->Prop):∀(ds:Ab D) (n:Nat) (ac:En),(∀j d e,ds[j]?=some d->I (n+j) e->∃a,b (e.set i (some (false,d))) ws=(.next a,ws)/\I (n+j+1) a)->I n ac->∃a,P9 i b ds ac ws=(.next a,ws)/\I (n+ds.length) a
 |[],n,ac,_,h0=>⟨ac,rfl,h0⟩
 |d::ds,n,ac,st,h0=>by
  obtain⟨a,h1,h2⟩:=st 0 d ac rfl h0;obtain⟨h,h3,f⟩:=Z4u I ds (n+1) a (λj d' e hd hI=>by
   have:=st (j+1) d' e hd (by rw[show n+(j+1)=n+1+j by omega];exact hI);rw[show n+(j+1)+1=n+1+j+1 by omega]at this;exact this) h2
  refine⟨h,?_,by rw[Qai,show n+(ds.length+1)=n+1+ds.length by omega];exact f⟩;unfold P9;rw[h1];exact h3
def Z6Z(hs:src ac=some ds)(I:Nat->En->Prop)(h:I 0 (fz rs ac))(st:∀j d e,ds[j]?=some d->I j e->∃a,b (e.set i (some (false,d))) ws=(.next a,ws)/\I (j+1) a)
  (f:∀e,I ds.length e->k e ws=r):dC (Z1n rs src i b) k ac ws=r:=by
 obtain⟨a,h1,h2⟩:=Z4u (i:=i) (b:=b) (ws:=ws) I ds 0 (fz rs ac) (λj d e hd hI=>by rw[Qbo]at hI ⊢;exact st j d e hd hI) h;rw[Qbo]at h2;exact uB (by unfold Z1n;rw[hs];exact h1) (f a h2)
def Z5f(h1:fs ac=some xs)(h2:m∉ns)(h3:ac[il]?=some (some (o,.fn a [] [])))(b:G a (.obj CD ns ds) xs=some (d,w'))(hd:∀C,d ≠ .exc C) :
  E7 a CD m Cs il i j kk G fs ac [.obj CD ns ds]=(.next (ac.set i (some (true,d))),[w']):=by
 unfold E7;rw[h1];simp only;rw[if_pos ⟨rfl,h2,o,h3⟩,b];cases d<;>first|rfl|exact absurd rfl (hd _)
def Z5g(h1:fs ac=some xs)(h2:m∉ns)(h3:ac[il]?=some (some (o,.fn a [] [])))(h:G a (.obj CD ns ds) xs=some (.exc C,w'))(n:C∈Cs)(l:j≠kk)(b:j<ac.length)(f:kk<ac.length) :
  E7 a CD m Cs il i j kk G fs ac [.obj CD ns ds]=(.next ((ac.set j (some (true,.exc C))).set kk none),[w']):=by
 unfold E7;rw[h1];simp only;rw[if_pos ⟨rfl,h2,o,h3⟩,h];simp only;rw[if_pos ⟨n,l,b,f⟩]
def oB(h1:g0 ac=.ret d)(hd:∀C,d ≠ .exc C):qQ g0 ac=.ret d:=by
 unfold qQ;rw[h1];cases d<;>first|rfl|exact absurd rfl (hd _)
def Z3R(h1:f ac=some d):rOr dT f (aZ (fNX f)) ac=.ret d:=by
 by_cases a:∃C,d=.exc C
 .obtain⟨C,rfl⟩:=a;exact gF h1 rfl
 .have hd:∀C,d ≠ .exc C:=λC e=>a ⟨C,e⟩;rw[iD h1 hd];unfold aZ;rw[eJ h1 hd];cases d<;>first|rfl|exact absurd rfl (hd _)
def sI(h1:G a (eU L (.fn a [] []::ds)) [w]=(.ret d,[w'])):E5 L G a w ds=some (d,w'):=by unfold E5;rw[h1]
end
end PD
namespace G
open PySem PySem.Spec PyProof.Rows L2 PD PySem.Builtin PySem.Builtin.Str PySem.StrLaws
abbrev blank:Str:=⟨#[32]⟩
def N8:(Str.ofString " ")=blank:=by decide +kernel
def mkS(l:Ab Nat):Str:=⟨l.toArray⟩
def cP(l:Ab Nat):(mkS l).cps.toList=l:=by simp[mkS]
def sC{a b:Str}(h:a.cps.toList=b.cps.toList):a=b:=ext_toList h
def Z35(s:Str):mkS s.cps.toList=s:=sC (by rw[cP])
def oI(c:Nat):Nat->Ab Nat->Ab Nat
 |_,[]=>[]
 |i,x::xs=>if x=c then i::oI c (i+1) xs else oI c (i+1) xs
def dD(c:Nat):Ab Nat->Ab (Ab Nat)
 |[]=>[[]]
 |x::xs=>if x=c then[]::dD c xs else match dD c xs with
  |h::t=>(x::h)::t
  |[]=>[[x]]
theorem jM(c:Nat):∀l,∃h t,dD c l=h::t
 |[]=>⟨[],[],rfl⟩
 |x::xs=>by
  unfold dD;split
  .exact⟨_,_,rfl⟩
  .obtain⟨h,t,e⟩:=jM c xs;rw[e];exact⟨_,_,rfl⟩
theorem J2(x:Str)(c:Nat):∀(l:Ab Nat) (i:Nat) (st:Ae Nat×Nat),x.cps.toList.drop i=l->st.snd<=i->st.fst.size<=i ->
  (forIn (List.range' i (l.length+1)) st (occBody x ⟨#[c]⟩ x.length (x.length+1))).run.fst.toList=st.fst.toList++oI c i l
 |[],i,st,hd,hs,hz=>by
  have b:x.length<=i:=by
   have n:x.cps.size-i=0:=by simpa using congrArg List.length hd
   show x.cps.size<=i;omega
  rw[show List.range' i (([]:Ab Nat).length+1)=[i] from rfl,Qbf]
  unfold occBody;rw[if_neg (by
   intro h;have:=(subAt_one x c i).mp ⟨h.1.2,h.2⟩;rw[QaH (by simpa[Str.length]using b)]at this;cases this)]
  simp[oI]
 |y::ys,i,st,hd,hs,hz=>by
  have j:x.cps.toList[i]?=some y:=by
   have:=congrArg (λl=>l[0]?) hd;simpa using this
  have hi:i<x.length:=by
   have:=(Qah.mp j).1;simpa[Str.length]using this
  have a:x.cps.toList.drop (i+1)=ys:=by
   rw[<- List.drop_drop,hd];rfl
  rw[show List.range' i ((y::ys).length+1)=i::List.range' (i+1) (ys.length+1) from rfl,Qbf]
  unfold occBody;by_cases hc:y=c
  .subst hc;have h1:=(subAt_one x y i).mpr j;rw[if_pos ⟨⟨⟨by omega,hs⟩,h1.1⟩,h1.2⟩];have f:=J2 x y ys (i+1) (st.fst.push i,i+(⟨#[y]⟩:Str).length) a (by simp[Str.length]) (by simp;omega);simp only[oI,Rk];refine Eq.trans f ?_;simp
  .rw[if_neg (by
    intro h;have:=(subAt_one x c i).mp ⟨h.1.2,h.2⟩;rw[j]at this;exact hc (QaF this))]
   have f:=J2 x c ys (i+1) (st.fst,st.snd) a (by simp only;omega) (by simp only;omega);simp only[oI,hc,Rl];exact f
def Z9N(x:Str)(c:Nat):occurrences x ⟨#[c]⟩ 0 x.length (x.length+1)=oI c 0 x.cps.toList:=by
 rw[occ_eq];have h:=J2 x c x.cps.toList 0 (#[],0) (by simp) (Qap _) (by simp);have e:x.cps.toList.length+1=x.length+1-0:=by simp[Str.length]
 rw[e]at h;simpa using h
theorem qX(x:Str)(c:Nat):∀(l:Ab Nat) (a b:Nat),a<=b->x.cps.toList.drop b=l ->
  ∃h t,dD c l=h::t/\partsFrom x 1 a (oI c b l)=mkS ((x.cps.toList.drop a).take (b-a)++h)::t.map mkS
 |[],a,b,hab,hd=>by
  refine⟨[],[],rfl,?_⟩;show[strSub x a x.length]=_;simp only[Qa5,QaN];congr 1;apply sC;rw[strSub_toList,cP];have r:x.cps.size-b=0:=by simpa using congrArg List.length hd
  have o:x.cps.size<=b:=by omega
  rw[Qbl (by simp[Str.length]),Qbl (by simp;omega)]
 |y::ys,a,b,hab,hd=>by
  have n:x.cps.toList[b]?=some y:=by
   have:=congrArg (λl=>l[0]?) hd;simpa using this
  have f:x.cps.toList.drop (b+1)=ys:=by rw[<- List.drop_drop,hd];rfl
  by_cases hc:y=c
  .subst hc;obtain⟨h,t,i,j⟩:=qX x y ys (b+1) (b+1) (Qap _) f;refine⟨[],dD y ys,by simp[dD],?_⟩;simp only[oI,Rk,partsFrom];rw[j,i];simp only[Nat.sub_self,List.take_zero,List.nil_append,QaN,Qan];congr 1;apply sC;rw[strSub_toList,cP]
  .obtain⟨h,t,i,j⟩:=qX x c ys a (b+1) (by omega) f;refine⟨y::h,t,by simp[dD,hc,i],?_⟩;simp only[oI,hc,Rl];rw[j];congr 2;have q:b<x.cps.toList.length:=(Qah.mp n).1;have p:(x.cps.toList.drop a).take (b+1-a)=(x.cps.toList.drop a).take (b-a)++[y]:=by
    rw[show b+1-a=(b-a)+1 by omega];refine Z2D ?_;rw[List.getElem?_drop,show a+(b-a)=b by omega];exact n
   rw[p];simp
theorem S5:∀{l:Ab Nat}{i:Nat},oI c i l=[]->dD c l=[l]
 |[],i,_=>rfl
 |x::xs,i,h=>by
  unfold oI at h;split at h
  .cases h
  .rename_i a;unfold dD;rw[if_neg a,S5 h]
def Z4Y(x:Str)(c:Nat)(j:x.cps.all (· < 256)=true)(hc:c<256):nQ x ⟨#[c]⟩=(dD c x.cps.toList).map mkS:=by
 unfold nQ;rw[Z9N];have f:¬(Builtin.Str.strKind x<Builtin.Str.strKind ⟨#[c]⟩):=by
  unfold Builtin.Str.strKind;rw[j];simp[hc]
 by_cases a:x.length<(⟨#[c]⟩:Str).length
 .have b:x.cps.toList=[]:=by
   have:x.length=0:=by simp[Str.length]at a ⊢;omega
   apply Qbk;simpa[Str.length]using this
  rw[if_pos (by simp[a]),b];simp only[dD,Qan,Qa5];congr 1;apply sC;rw[b,cP]
 .rw[if_neg (by simp[a,f])];by_cases h1:(oI c 0 x.cps.toList).isEmpty=true
  .rw[if_pos h1,S5 (by simpa using h1)];simp[Z35]
  .rw[if_neg h1,partsBetween_eq];obtain⟨h,t,l,i⟩:=qX x c x.cps.toList 0 0 (Qap _) (by simp);show partsFrom x 1 0 _=_;rw[i,l];simp
def pY(w:Ab Nat)(ws:Ab (Ab Nat)):Ab Nat:=w++ws.flatMap λv=>32::v
theorem M0:∀(ws:Ab Str) (a:Ae Nat),((ws.foldl (λaj p=>aj++blank.cps++p.cps) a).toList:Ab Nat)=pY a.toList (ws.map λs=>s.cps.toList)
 |[],a=>by simp[pY]
 |w::ws,a=>by
  rw[List.foldl_cons,M0 ws];simp[pY]
def Z5L(w:Str)(ws:Ab Str):Txt.join blank (w::ws)=mkS (pY w.cps.toList (ws.map λs=>s.cps.toList)):=by
 apply sC;rw[cP];show((List.drop 1 (w::ws)).foldl (λaj p=>aj++blank.cps++p.cps) ((w::ws).headD Str.empty).cps).toList=_;exact M0 ws w.cps
theorem R4:∀{w:Ab Nat},c∉w->dD c w=[w]
 |[],_=>rfl
 |x::xs,h=>by
  have h1:x≠c:=λe=>h (by simp[e]);unfold dD;rw[if_neg h1,R4 λz=>h (Qaa _ z)]
theorem C9:∀{w:Ab Nat},c∉w->dD c (w++c::r)=w::dD c r
 |[],_=>by simp[dD]
 |x::xs,h=>by
  have h1:x≠c:=λe=>h (by simp[e]);have a:=C9 (r:=r) λz=>h (Qaa _ z);show dD c (x::(xs++c::r))=_;rw[dD,if_neg h1,a]
theorem yT:∀{w:Ab Nat}{ws:Ab (Ab Nat)},32∉w->(∀v∈ws,32∉v)->dD 32 (pY w ws)=w::ws
 |w,[],h,_=>by simp[pY,R4 h]
 |w,v::vs,h,hs=>by
  have a:=yT (w:=v) (ws:=vs) (hs v Qag) λu hu=>hs u (Qaa _ hu);have e:pY w (v::vs)=w++32::pY v vs:=by simp[pY]
  rw[e,C9 h,a]
def Z5B(i:Int):Str:=Str.ofString (toString i)
def xU(m:Nat):Ab Nat:=(Nat.toDigits 10 m).map Char.toNat
def Z5A(m:Nat):(Z5B (m:Int)).cps.toList=xU m:=PySem.W.KIN.signs_num m
end G
namespace PD
open PySem PySem.Spec PyProof.Rows L2
abbrev fMo:=fI2 (λ_ j=>0<j) (λi j=>.int (i%j))
abbrev fDv:=fI2 W7 (λi j=>.int (i/j))
abbrev fAd:=fI0 (λi j=>.int (i+j))
abbrev fSu:=fI0 (λi j=>.int (i-j))
abbrev fMu:=fI2 IntMulOk (λi j=>.int (i*j))
abbrev fSh:=fI2 Z2u (λi j=>.int (i*2^j.toNat))
abbrev fPw:=fI2 Zcq (λi j=>.int (i^j.toNat))
abbrev kI(n:Int):=fC (.int n)
abbrev kS(x:Str):=fC (.str x)
abbrev fX(a:Nat)(n:Int):=fIx (aD a) (kI n)
abbrev oF(d:D):Aa (Bool×D):=some (false,d)
abbrev oT(d:D):Aa (Bool×D):=some (true,d)
def dL(c:dE X.prog X.w X.K X.mg X.base x dds k n F')(J:Room k X.A)(i:NArgs na fs)(f:na+dds.length=n)(t:QA X m1 rs1 (e::es) fs)(B:Gl X x:=by rfl)
  (l:nDb x:=by decide) (he:sEa e es X.env:=by rfl) (hpl:bTa ai es X.env:=by rfl) :
  QE X true [] (.Call (.Name x p) (e::es) [] ai) (fNX (aL F' dds fs)):=by
 obtain⟨M,fd,ps,dvs,ds,G,L,y,a,hd,o⟩:=c.ex;refine .mk (L2.pe_call (E:=E0) G J B L y a hd (λaa σ H s e s' I ⟨_,_,_,_,_,_,_,_,_,h⟩=>h.elim) t l he hpl) λσ H Q ⟨ac,F,d,ok,h,q⟩=>?_;have u:aL F' dds fs ac=some d/\∀C,d ≠ .exc C:=by
  unfold fNX at h;split at h
  .cases h
  .rename_i f;exact⟨h,λC e=>f C (by rw[h,e])⟩
 obtain⟨h2,j⟩:=u;unfold aL at h2;cases h1:fs ac with
 |none=>rw[h1]at h2;cases h2
 |some xs =>
  rw[h1]at h2;refine⟨ac,F,xs,ok,h1,λvs H' fp s r c=>⟨xs++dds,d,fp++[],by rw[Qaj,i.len ac xs h1];exact f,(Reps.weak _ _ _ r).append (o H'),h2,?_⟩⟩;have z:∀v H2 fp',Same H' H2->Rep X.K true H2 d v fp'->(∀b∈fp',H' b=none)->fp'.Nodup->Q v H2:=λv H2 fp' s2 r2 h2 nd=>q v H2 fp' (s.trans s2) r2 ⟨λb a=>.inl (s.free (h2 b a)),λ_=>⟨nd,λb a=>s.free (h2 b a)⟩⟩;cases d<;>first|exact z|exact absurd rfl (j _)
end PD
namespace L2
open PySem PySem.Spec PyProof.Rows
def pkI(lo st:Aa Int)(n:Nat):Ab Nat:=sliceRange (sliceBounds lo none st n).1 (sliceBounds lo none st n).2.1 (sliceBounds lo none st n).2.2
theorem Vals.pick(r:Vals xs us):∀L:Ab Nat,Vals (L.filterMap (xs[·]?)) (L.filterMap (us[·]?))
 |[]=>.nil
 |i::L=>by
  cases e:xs[i]? with
  |none=>rw[Qbv e,Qbv (r.none_of e)];exact Vals.pick r L
  |some x =>
   obtain⟨u,a,q⟩:=r.get e;rw[Qbg e,Qbg a];exact .cons q (Vals.pick r L)
def pe_slSt{X:Cx}{e:Ag}{te:TE}{lo:Aa Ag}{st:Ag}{tl t:TO}{ai p2:Pos}(he:PE X e te)(y:PO X lo tl)(f:PO X (some st) t):PE X (.Subscript e (.Slice lo none (some st) p2) ai)
  (λσ H Q=>te σ H λx H1=>tl σ H1 λl H2=>t σ H2 λk H3=>∃a xs,x=.ref a/\SqL X.K H3 a xs/\k≠some 0/\∀p,H3 p=none->Q (.ref p) (upd H3 p (.lst ((pkI l k xs.length).filterMap (xs[·]?))))):=by
 intro aa s σ H Q I h;refine Subscript_ (thn (he aa s σ H _ I h) λv s1 ⟨x,H1,I1,r1,q1⟩=>?_);refine wpAny_Slice (thn (y aa s1 σ H1 _ I1 q1) λvl s2 ⟨l,H2,I2,pl,q2⟩=>?_);rw[evalPart_none];refine Rb (thn (f aa s2 σ H2 _ I2 q2) λvs s3 ⟨k,H3,I2,pk,a,xs,ex,hx,hk,q⟩=>?_);subst ex;cases r1;have j:Inv X aa σ H3 { s3 with heap:=s3.heap.push { cls:=.type "slice",data:=.fields #[vl,.none,vs] } }:=I2.kept (t':=s3.toks) λb ob q=>Qac _ q;obtain⟨ak,r,f,B⟩:=j.list hx;have i:=r.length;show wpAny (model X.prog X.w) X.A (subscriptTail e (.Slice lo none (some st) p2) (.ref a) (.ref s3.heap.objs.size)) (EP X aa σ Q) X.xe { s3 with heap:=s3.heap.push { cls:=.type "slice",data:=.fields #[vl,.none,vs] } };refine tail_any (ops:=[.ref a,.ref s3.heap.objs.size]) f.isList.typeIs slot_list_getitem.lookup ?_ (by with_unfolding_all rfl);refine wpAny_getItem_list_slice f.isList (Heap.IsSliceOf.new ..) pl .none pk hk ?_ (by rw[Qat]<;>omega);have hsz:=slicePick_size_le ak.toArray l none k;have n:slicePick ak.toArray l none k=((pkI l k xs.length).filterMap (ak[·]?)).toArray:=by
  unfold slicePick pkI;rw[Qat,i];simp only[List.getElem?_toArray]
 rw[n]at hsz ⊢;have u:=r.pick (pkI l k xs.length);refine⟨.ref (s3.heap.push { cls:=.type "slice",data:=.fields #[vl,.none,vs] }).objs.size,_,j.laid (t':=s3.toks) (o:=.lst ((pkI l k xs.length).filterMap (xs[·]?))) (λb ob q=>Qac _ q) (Qap _) ?_,rfl,q _ (j.hok.fresh (Qap _))⟩;refine⟨?_,_,0,u,Qas _ rfl⟩;rw[Qat,Qat]at hsz;rw[u.length];omega
end L2
namespace PD
open PySem PySem.Spec PyProof.Rows L2
def mY(fa:En->Aa D)(fl fk:En->Aa (Aa Int)):En->Aa D:=λac=>match fa ac,fl ac,fk ac with
 |some (.lst ds),some l,some k=>if flats ds=true/\k≠some 0 then some (.lst ((pkI l k ds.length).filterMap (ds[·]?))) else none
 |_,_,_=>none
theorem Reps.pick{K:Frag}{st:Bool}{H:Hp}{ds:Ab D}{vs:Ab V}(r:Reps K st H ds vs []):∀L:Ab Nat,Reps K st H (L.filterMap (ds[·]?)) (L.filterMap (vs[·]?)) []
 |[]=>by simp only[List.filterMap_nil,Reps];exact⟨trivial,trivial⟩
 |i::L=>by
  have h:=Reps.pick r L;cases e:ds[i]? with
  |none =>
   have a:vs[i]?=none:=by rw[List.getElem?_eq_none_iff]at e ⊢;rw[r.length];exact e
   rw[Qbv e,Qbv a];exact h
  |some d =>
   obtain⟨v,f,a,q,j,_⟩:=Reps.get r e;obtain rfl:f=[]:=List.eq_nil_iff_forall_not_mem.mpr λb hb=>(by cases j b hb);rw[Qbg e,Qbg a];simp only[Reps];exact⟨v,_,[],[],rfl,rfl,q,h⟩
def sL{X:Cx}{m m1:Bool}{rs rs1:Ab Nat}{a:Ag}{fa:En->Aa D}{lo:Aa Ag}{st:Ag}{fl fk:En->Aa (Aa Int)}{p2 ai:Pos}(j:QE X m1 rs1 a fa)(t:QO X lo fl)(o:QO X (some st) fk):QE X m rs (.Subscript a (.Slice lo none (some st) p2) ai) (mY fa fl fk) :=
 .mk (L2.pe_slSt j t o) λσ H Q ⟨ac,F,d,ok,e,q⟩=>by
  unfold mY at e;split at e
  .rename_i ds l k h1 h2 h3;split at e
   .rename_i f;cases e;refine⟨ac,F,_,ok,h1,λv H1 f1 s1 r1 c1=>⟨ac,F,l,ok.same s1,h2,λH2 s2=>⟨ac,F,k,ok.same (s1.trans s2),h3,λH3 s3=>?_⟩⟩⟩;obtain⟨p,vs,fp',rfl,b,h,n⟩:=cB (r1.same (s2.trans s3));refine⟨p,vs,rfl,b,f.2,λp' hp=>?_⟩;obtain⟨u,r⟩:=Reps.flat _ _ _ f.1 h;rw[h.length];have i:=(r m).pick (pkI l k ds.length);exact q _ _ [p'] (((s1.trans s2).trans s3).trans (bV hp)) (mP hp i) (mZ ((s1.trans s2).trans s3) hp i .nil)
   .cases e
  .cases e
def ZbM(i:Nat)(hi:i<2):∀(ps:Ab (α×α)),(pkI (if i=0 then none else some 1) (some 2) (2*ps.length)).filterMap ((ps.flatMap λp=>[p.1,p.2])[·]?)=ps.map λp=>if i=0 then p.1 else p.2:=by
 intro ps;have e:pkI (if i=0 then none else some 1) (some 2) (2*ps.length)=(List.range ps.length).map λk=>i+2*k:=by
  have a:sliceBounds (if i=0 then none else some 1) none (some 2) (2*ps.length)=(((min i (2*ps.length):Nat):Int),((2*ps.length:Nat):Int),(2:Int)):=by
   rcases Nat.lt_or_ge i 1 with h|h
   .obtain rfl:i=0:=by omega
    simp[sliceBounds]
   .obtain rfl:i=1:=by omega
    simp[sliceBounds];omega
  unfold pkI;rw[a];unfold sliceRange;dsimp only;rw[if_pos (by decide)];by_cases f:ps.length=0
  .rw[f];simp
  .rw[if_pos (by omega),show((((2*ps.length:Nat):Int)-((min i (2*ps.length):Nat):Int)+2-1)/2).toNat=ps.length by omega];refine Qbs λk hk=>?_;omega
 rw[e,List.filterMap_map];clear e
 induction ps with
 |nil=>rfl
 |cons p ps ih =>
  rw[Qai,List.range_succ_eq_map,Qbg (b:=if i=0 then p.1 else p.2),List.filterMap_map,Qan]
  .refine congrArg (_ :: ·) (Eq.trans ?_ (ih));refine congrArg (List.filterMap · _) (funext λk=>?_);show(p.1::p.2::_)[i+2*(k+1)]?=_;rw[show i+2*(k+1)=(i+2*k)+1+1 by omega];try rfl
  .show(p.1::p.2::_)[i+2*0]?=_;rcases Nat.lt_or_ge i 1 with h|h
   .obtain rfl:i=0:=by omega
    rfl
   .obtain rfl:i=1:=by omega
    rfl
end PD
namespace L2
open PySem PySem.Spec PyProof.Rows
def Ze2:V->Aa Int->Aa Int->Hp->VK->Prop:=λx lo hi H Q=>∃z,x=.str z/\z.length<=sizeLine/\Q (.str (Txt.slice z lo hi)) H
def Zbg:SlR X Ze2:=by
 intro aa s σ H x v A B lo hi y Q I w hs pl r h;obtain⟨z,rfl,b,q⟩:=h;obtain⟨t,rfl⟩:=w;refine⟨"str",_,F.slot_str_getitem.lookup,typeIs_str _ _ _,?_⟩;obtain⟨o,f,n,p⟩:=hs;have a:∀t' k,EP X aa σ Q (.str (Txt.slice z lo hi) t') { s with toks:=k }:=λt' k=>⟨.str (Txt.slice z lo hi),H,I.tok _,⟨t',rfl⟩,q⟩;cases pl with
 |none =>
  cases r with
  |none=>exact wpAny_getItem_str_slice (l:=none) (u:=none) (st:=none) ⟨o,f,n,p⟩ rfl (post_val_or_str ⟨Qay (Txt.slice_le z _ _) b,a⟩)
  |int j u=>exact wpAny_getItem_str_slice (l:=none) (u:=some (j,u)) (st:=none) ⟨o,f,n,p⟩ rfl (post_val_or_str ⟨Qay (Txt.slice_le z _ _) b,a⟩)
 |int i ui =>
  cases r with
  |none=>exact wpAny_getItem_str_slice (l:=some (i,ui)) (u:=none) (st:=none) ⟨o,f,n,p⟩ rfl (post_val_or_str ⟨Qay (Txt.slice_le z _ _) b,a⟩)
  |int j u=>exact wpAny_getItem_str_slice (l:=some (i,ui)) (u:=some (j,u)) (st:=none) ⟨o,f,n,p⟩ rfl (post_val_or_str ⟨Qay (Txt.slice_le z _ _) b,a⟩)
end L2
namespace PD
open PySem PySem.Spec PyProof.Rows L2
def wN(fa:En->Aa D)(fl fh:En->Aa (Aa Int)):En->Aa D:=λac=>match fa ac,fl ac,fh ac with
 |some (.str z),some lo,some hi=>if z.length<=1000 then some (.str (Txt.slice z lo hi)) else none
 |_,_,_=>none
def jN{X:Cx}{m m1:Bool}{rs rs1:Ab Nat}{a:Ag}{fa:En->Aa D}{lo hi:Aa Ag}{fl fh:En->Aa (Aa Int)}{p2 ai:Pos}(b:QE X m1 rs1 a fa)(i:QO X lo fl)(f:QO X hi fh):QE X m rs (.Subscript a (.Slice lo hi none p2) ai) (wN fa fl fh) :=
 .mk (L2.pe_slice Zbg b i f) λσ H Q ⟨ac,F,d,ok,e,q⟩=>by
  unfold wN at e;split at e
  .rename_i z l h h1 h2 h3;split at e
   .rename_i j;cases e;refine⟨ac,F,_,ok,h1,λv H1 f1 s1 r1 c1=>⟨ac,F,l,ok.same s1,h2,λH2 s2=>⟨ac,F,h,ok.same (s1.trans s2),h3,λH3 s3=>?_⟩⟩⟩;rw[cS r1];exact⟨z,rfl,Qay j (by decide),q _ _ [] ((s1.trans s2).trans s3) nU .nil⟩
   .cases e
  .cases e
open PySem.W (hideAll hideAll_get hideAll_none funFrames_hide)
section
variable {M:Model}{A:Ai}{E:Ad->Ac->Prop}{s:Ac}{B:Ah}{l af:Ab Env}{ac:Env}{e L:Af}{cls a0 fl:Ad}{Q:Unit->Ac->Prop}
def Z3J{h:Ah}{x:Ad}(u:B.StaysIn h)(v:h.FunFrames B l){j:Obj}{vs:Ae Ad}{T:Af}{oT:Obj}{r:Ae Ad}(he:h.get? e=some j)(hc:j.cls=cls/\vs[0]?=some a0)(hd:j.data=.fields vs)(h1:vs[1]?=some (.ref T))(n:B.get? T=none)(p:T≠e)(t:h.get? T=some oT)(i:oT.data=.fields r)(h3:3<r.size) :
  B.StaysIn (h.update T (Obj.mapFields (·.setIfInBounds 3 x)))/\(h.update T (Obj.mapFields (·.setIfInBounds 3 x))).FunFrames B l/\(h.update T (Obj.mapFields (·.setIfInBounds 3 x))).TracedAtW B e cls a0 x /\
   ∀b o,h.get? b=some o->(∀vs,o.data ≠ .fields vs)->(h.update T (Obj.mapFields (·.setIfInBounds 3 x))).get? b=some o:=by
 have a:∀b,b≠T->(h.update T (Obj.mapFields (·.setIfInBounds 3 x))).get? b=h.get? b:=λb hb=>Heap.get?_update_other _ _ (Ne.symm hb);have f:∀b o,h.get? b=some o->(∀vs,o.data ≠ .fields vs)->b≠T:=λb o hb hnf q=>by
  rw[q,t]at hb;injection hb with hb;subst hb;exact hnf r i
 refine⟨λb o hbo=>(a b λq=>by rw[q,n]at hbo;cases hbo).trans (u b o hbo),v.of_keeps λb o hb hnf=>⟨o,(a b (f b o hb hnf)).trans hb,rfl⟩,?_,λb o hb hnf=>(a b (f b o hb hnf)).trans hb⟩;exact⟨j,vs,T,_,_,(a e (Ne.symm p)).trans he,hc,hd,h1,n,p,Heap.get?_update_self _ t (Obj.isFreed_of_fields (Obj.data_mapFields i _)),Obj.data_mapFields i _,by simp[h3]⟩
def Z7o{α:Type}{j:String}{Q:α->Ac->Prop}{env':Env}(p:B.StaysIn s.heap)(y:s.heap.FunFrames B l)(F:s.heap.TracedAtW B e cls a0 fl)
  (h:∀h' fl',B.StaysIn h'->h'.FunFrames B l->h'.TracedAtW B e cls a0 fl'->(∀b o,s.heap.get? b=some o->(∀vs,o.data ≠ .fields vs)->h'.get? b=some o)->E (.ref e) { s with heap:=h' }) :
  wpAny M A (PySem.passOn j (.ref e) env':Sem α) Q E s:=by
 obtain⟨G,vs,T,oT,H,he,i,hd,h1,q,r,n,a,h3⟩:=F;have t:=(QaL.mp h3).1;unfold PySem.passOn;refine Ra (wpAny_field he hd h1 ?_);rw[if_neg (show ¬((Value.ref T==Value.none)=true) from by simp)]
 refine Ra ?_;unfold setFlight;refine Ra (wpAny_field he hd h1 ?_);rw[if_pos (show(Value.ref T != Value.none)=true from by simp)]
 obtain⟨w,C,u,v⟩:=Z3J (x:=env'.frame.elim .none λf=>rawInt f) p y he i hd h1 q r n a t;refine wpAny_setField n a t (wpAny_throw (h _ _ w C u v))
def Z5H(r:A.frames=some (ac::af))(u:s.heap.FunFrames B (ac::af))(n:ac.frame=some L)(p:s.heap.TracedAtW B e cls a0 fl)(i:B.StaysIn s.heap)(v:B.get? e=none)
  (h:∀h',Heap.LeftW B (ac::af) e cls a0 s.heap h'->Q () { s with heap:=h' }):wpAny M A («leaving» ac (.ref e)) Q E s:=by
 by_cases w:fl=rawInt L
 .subst w;unfold «leaving»;exact Ra (wpAny_noteFrame_againW n p (wpAny_setFlight_noneW i u p λh' k1 k2 k3 k4=>h h' ⟨k1,k2,k3,λb o hb hn=>⟨o.slots,k4 b o hb hn⟩⟩))
 obtain⟨G,vs,T,oT,H,he,⟨a,q⟩,hd,h1,t,j,l,f,h3⟩:=p;obtain⟨C,F,_,y⟩:=Z3J (x:=Value.none) i u he ⟨a,q⟩ hd h1 t j l f (QaL.mp h3).1;subst a;unfold «leaving» noteFrame;simp only[n];refine Ra (Ra (wpAny_field he hd h1 ?_));rw[if_pos (show(Value.ref T != Value.none)=true from by simp)]
 refine Ra (wpAny_field l f h3 ?_);rw[if_neg (show ¬((fl==rawInt L)=true) from by simpa using w)]
 refine Ra (wpAny_setField l f (QaL.mp h3).1 ?_);exact wpAny_newEntryW r F n ((Heap.get?_update_other _ _ j).trans he) C v hd (QaL.mp h1).1 q
  λh' ⟨x1,x2,x3,x4⟩=>h h' ⟨x1,x2,x3,λb o hb hnf=>x4 b o (y b o hb hnf) hnf⟩
end
def Zcg(X:Cx)(C:Af)(x:Ad)(s':Ac):Prop:=∃m,s'.heap.Ns C m/\∀h',Heap.SameBut C s'.heap h'->∀cenv:Env,cenv.locals=C->wpAny (model X.prog X.w) X.A (PySem.passOn "comprehension.variables-let-go" x cenv:Sem Ad) (λ_ _=>False) X.xe { s' with heap:=h' }
def InC(X:Cx)(C:Af)(s₀:Ac)(H₀:Hp)(ex:Ab Af)(aa:Ab (Af×Obj)):Prop:=∃σ,Inv X aa σ H₀ s₀/\C=s₀.heap.objs.size/\∀b∈ex,xD X aa H₀ b
def dA(X:Cx)(N':Ab Str)(ag:Scope)(cl:Ab (Str×Af))(C:Af)(s₀:Ac)(H₀:Hp)(ex:Ab Af)(aa:Ab (Af×Obj)):Cx :=
 { cxComp X N' ag cl C s₀ H₀ ex aa with xe:=λe s'=>InC X C s₀ H₀ ex aa->notedBy (model X.prog X.w) X.A (compEnvC ag cl C X.env) (Zcg X C) e s' }
theorem Z85{B h h':Ah}{C:Af}(sb:Heap.SameBut C h h'):∀{l:Ab Env},h.FunFrames B l->C∉frs l->h'.FunFrames B l
 |[],_,_=>trivial
 |ac::r,⟨a1,⟨L,o,b1,b2,b3,b4⟩,a3⟩,hc=>by
  have e:frs (ac::r)=L::frs r:=by unfold frs;rw[Qbt,b1]
  rw[e]at hc;exact⟨a1,⟨L,o,b1,b2,(sb.2 L λz=>hc (by rw[z];simp)).trans b3,b4⟩,Z85 sb a3 λz=>hc (Qaa _ z)⟩
section
variable {X:Cx}{aa:Ab (Af×Obj)}{σ:L2.St}{H:Hp}{s:Ac}{h3:Ah}
def T3(I:Inv X aa σ H s){xs:Ab Af}(a:∀x∈xs,H x=none/\X.s₀.heap.get? x=none)(st:(hideAll s.heap (xs++frs X.stack)).StaysIn h3)(l:∀b o,s.heap.get? b=some o->b∈frs X.stack->∃sl,h3.get? b=some { o with slots:=sl }) :
  HOk X.prog X.w H h3/\Un X.fs X.ex X.H₀ H X.s₀.heap h3:=by
 have i:∀b o,s.heap.get? b=some o->b∉frs X.stack->b∉xs->h3.get? b=some o:=λb o q hb hc=>st b o (hideAll_get _ q λz=>(Qaf.mp z).elim hc hb);have nx:∀b o,X.s₀.heap.get? b=some o->b∉xs:=λb o q z=>by rw[(a b z).2]at q;cases q
 refine⟨λb o e=>(I.hok b o e).stay (λc u hc q=>i c u q (λz=>?_) λz=>?_) (λ_ q=>q) λ_ _ q=>q,⟨λb o q n hb a=>?_,λb o q n hb a=>?_,I.base.free,λb o q a=>?_,I.base.tups,I.base.frzs,I.base.tbls⟩⟩
 .have:=I.stkFree c z;rcases hc with rfl|hc
  .rw[e]at this;cases this
  .rw[hc]at this;cases this
 .have:=(a c z).1;rcases hc with rfl|hc
  .rw[e]at this;cases this
  .rw[hc]at this;cases this
 .exact i b o (I.base.keep b o q n hb a) (X3 I q hb) (nx b o q)
 .obtain⟨s1,f⟩:=I.base.slot b o q n hb a;by_cases h:b∈frs X.stack
  .obtain⟨p,j⟩:=l b _ f h;exact⟨p,j⟩
  .exact⟨s1,i b _ f h (nx b o q)⟩
 .obtain⟨r,f⟩:=I.base.there b o q a;by_cases h:b∈frs X.stack
  .obtain⟨p,j⟩:=l b _ f h;exact⟨_,j⟩
  .exact⟨r,i b _ f h (nx b o q)⟩
end
def Z5u{X:Cx}{E:XK}{N':Ab Str}{ag:Scope}{cl:Ab (Str×Af)}{C:Af}{s₀:Ac}{H₀:Hp}{ex:Ab Af}{aa:Ab (Af×Obj)}(r:X.ex=[])(y:X.stack=X.env::X.outer)(hf:X.env.frame=some X.env.locals)
  (hxe:∀e s',wpAny (model X.prog X.w) X.A («leaving» X.env e) (λ_ s''=>CXe X.prog X.w X.outer X.H₀ X.s₀ E e s'') (λ_ _=>False) s'->X.xe e s'):pV (CXe X.prog X.w) (dA X N' ag cl C s₀ H₀ ex aa) E:=by
 intro O σ' H' s' e s'' H cx hin;obtain⟨σ,M,hC,f3⟩:=hin;obtain⟨a,Cl,j,rfl,os,Z,un,hok,⟨fa,f0,oe,vs,T,oT,ts,t1,t2,t3,t4,t6,t7,t8,t9,t10,t11⟩,hq⟩:=cx;have u:Inv (dA X N' ag cl C s₀ H₀ ex aa) O σ' j s'':=H.call' os un hok Z (λb z=>absurd z (by simp));have ch:∀b∈ex,(b∈X.ex\/X.s₀.heap.objs.size<=b)/\b≠X.env.locals/\(∀x c,X.env.cells.lookup x=some c->c≠b)/\∀p∈X.pn++aa,p.1≠b:=λb hb=>⟨(f3 b hb).2.2.2.1,(f3 b hb).2.1,(f3 b hb).2.2.2.2.1,(f3 b hb).2.2.2.2.2⟩;have J:Inv X aa σ j s'':=M.call' u.os u.base u.hok u.bare ch;have J0:Inv X aa σ H' s':=M.call' H.os H.base H.hok H.bare ch;have hC1:j C=none:=u.free;have hC2:X.s₀.heap.get? C=none:=by
  cases q:X.s₀.heap.get? C with
  |none=>rfl
  |some o=>exact absurd (Qal q) (Nat.not_lt.mpr (by rw[hC];exact M.sz))
 have U:C∉frs X.stack:=λz=>by
  obtain⟨_,o,i,_⟩:=M.stack.mem z;exact absurd (Qal i) (by rw[hC];exact Qa9 _)
 have G:∀x∈[a,T,C],j x=none/\X.s₀.heap.get? x=none:=λx hx=>by
  rcases Qab.mp hx with z|z
  .rw[z];exact⟨fa,nF J0 r f0⟩
  rcases Qab.mp z with z|z
  .rw[z];exact⟨t10,nF J0 r t11⟩
  have z:x=C:=by simpa using z
  rw[z];exact⟨hC1,hC2⟩
 obtain⟨m,P,_⟩:=u.loc;have lu:=@T3 X aa σ j s'';obtain⟨f,g,d,t,v⟩:=s'';have K:f.FunFrames (hideAll f ([a,T,C]++frs X.stack)) X.stack:=funFrames_hide J.stack λac he b hb=>Qae _ (Z0k ac he b hb);have Q:(hideAll f ([a,T,C]++frs X.stack)).StaysIn f:=λb o hb=>Qbm _ hb;have I:∀x∈[a,T,C],(hideAll f ([a,T,C]++frs X.stack)).get? x=none:=λx hx=>hideAll_none _ (Qar _ hx);have S:∀x,(hideAll f ([a,T,C]++frs X.stack)).get? x=none->x∉[a,T,C]->x∉frs X.stack->f.get? x=none:=λx hx h1 h2=>by
  cases qq:f.get? x with
  |none=>rfl
  |some o=>rw[hideAll_get _ qq λz=>(Qaf.mp z).elim h1 h2]at hx;cases hx
 have lu:∀h5,(hideAll f ([a,T,C]++frs X.stack)).StaysIn h5->_:=λh5 st=>T3 (h3:=h5) J G st;generalize hideAll f ([a,T,C]++frs X.stack)=B at K Q I S lu;have N:1<vs.size:=(QaL.mp t4).1;have hv0:vs[0]?=some (vs[0]'(by omega)):=Array.getElem?_eq_getElem _;have ht:f.TracedW B a (.ref Cl) (vs[0]'(by omega)):=⟨oe,vs,T,oT,ts,t1,⟨t2,hv0⟩,t3,t4,I T (by simp),t6,t7,t8,t9⟩;have F:=J.ok.frames;have Y:=J.stack;have hh0:∀b o,f.get? b=some o->b∈frs X.stack->∀vs,o.data ≠ .fields vs:=λb o e hb=>by
  obtain⟨_,o',i,n⟩:=Y.mem hb;rw[show f.get? b=some o' from i]at e;cases e;exact n
 have hl0:=K;rw[y]at K F;show wpAny _ X.A (noteFrame (.ref a) X.env) _ _ _;refine wpAny_noteFrame_onW (s:=⟨f,g,d,t,v⟩) F K hf ht Q (I a (by simp)) λh1 ⟨k1,k2,k3,k4⟩=>?_;have n1:h1.Ns C m:=Heap.UpToSlots.ns (h:=f) k4 P;refine⟨m,n1,λh2 sb cenv _=>?_⟩;have nC:∀b o vs,h1.get? b=some o->o.data=.fields vs->b≠C:=λb o vs i n z=>by
  obtain⟨o',_,_,L,e4,_⟩:=n1;rw[<- z,i]at L;cases L;rw[n]at e4;cases e4
 obtain⟨oe1,vs1,T1,oT1,ts1,u1,u2,u3,u4,u5,u6,u7,u8,u9⟩:=k3;refine Z7o (s:=⟨h2,g,d,t,v⟩) (B:=B) (l:=X.env::X.outer) (λb o hb=>(sb.2 b λz=>?_).trans (k1 b o hb)) (Z85 sb k2 (by rw[<- y];exact U))
  ⟨oe1,vs1,T1,oT1,ts1,(sb.2 a (nC _ _ _ u1 u3)).trans u1,u2,u3,u4,u5,u6,(sb.2 T1 (nC _ _ _ u7 u8)).trans u7,u8,u9⟩ λh4 fl' p1 p2 p3 p4=>hxe _ _ ?_
 .rw[z,I C (by simp)]at hb;cases hb
 refine Z5H (s:=⟨h4,g,d,t,v⟩) F p2 hf p3 p1 (I a (by simp)) λh5 ⟨q1,q2,q3,q4⟩=>?_;obtain⟨l1,l2⟩:=lu h5 q1 λb o e hb=>by
  have nf:=hh0 b o e hb;obtain⟨s1,i⟩:=k4 b o e nf;have n:=p4 b _ ((sb.2 b λz=>U (z ▸ hb)).trans i) nf;obtain⟨s2,L⟩:=q4 b _ n nf;exact⟨s2,L⟩
 rw[r]at l2;obtain⟨oe',vs',T',oT',W,w1,w2,w3,w4,w5,w6,w7,w8,w9⟩:=q3;have R:j T'=none/\X.s₀.heap.get? T'=none:=by
  by_cases N:T'∈frs X.stack
  .rw[y]at N;obtain⟨_,o',i,n⟩:=q2.mem N;rw[w7]at i;cases i;exact absurd w8 (n W)
  .by_cases hy:T'∈[a,T,C]
   .exact G T' hy
   .have P:=S T' w5 hy N;exact⟨vJ J P,nF J r P⟩
 exact⟨a,Cl,j,rfl,J.os,J.bare,l2,l1,⟨fa,(G a (by simp)).2,oe',vs',T',oT',W,w1,w2.1,w3,w4,w6,w7,w8,w9,R.1,R.2⟩,hq⟩
section
variable {X:Cx}{aa:Ab (Af×Obj)}{σ:L2.St}{H:Hp}{s:Ac}{elt iter tg:Ag}{ifs:Ab Ag}{ag:Scope}{ai:Pos}{tgs:Ab Str}{fr:Ab Nat}{g:TG}{tt:TT}{te:TE}{J:It}{fp:Ab Af}{it:Af}{tn:Nat->Ah->Prop}
def U9{cl:Ab (Str×Af)}{R:VK}{E:Ad->Ac->Prop}{RR:Ad->Af->Result->Ac->Prop}(r:Inv X aa σ H s)(T:O1 X.prog X.w X.K tg J fp it tn)(q:tn 0 s.heap)(t:∀b∈fp,xD X aa H b)(hc:X.calm=true)
  (l:dP X.env.scope X.N ag fr=true)
  (h:∀n c,cl.lookup n=some c->X.env.cells.lookup n=some c) (j:∀n,(n,NameKind.free)∈ag.names->∃c,cl.lookup n=some c)
  (u:∀cl C s0 H0 ex aa,PG (dA X (cY tgs fr X.N) ag cl C s0 H0 ex aa) tg g)
  (B:∀cl C s0 H0 ex aa,PTs (dA X (cY tgs fr X.N) ag cl C s0 H0 ex aa) ifs tt)
  (he:∀cl C s0 H0 ex aa,PE (dA X (cY tgs fr X.N) ag cl C s0 H0 ex aa) elt te)
  (v:Z4L J tgs.length fr g tt te σ H R)
  (o:∀D C s' Hend m,Inv X aa σ Hend s'->s'.heap.Ns C m->Hend C=none->C≠X.env.locals->X.s₀.heap.objs.size<=C->(∀x c,X.env.cells.lookup x=some c->c≠C)->(∀p∈X.pn++aa,p.1≠C)->R (.ref D) Hend->RR (.ref D) C (.ok .next) s')
  (f:∀aj C x s',Zcg X C x s'->RR aj C (.error x) s') :
  wpAny (model X.prog X.w) X.A (newList []) (λaj s₃=>wpAny (model X.prog X.w) X.A (newFunctionEnv ag X.env.globals cl [] X.env.qual none .none (some X.env)) (λa i =>
   codeAny (model X.prog X.w) X.A (.compStart (.ListComp elt [⟨tg,iter,ifs,0⟩] ag ai) 0 (.ref it) aj { a with scope:=relabel ag X.env }) (RR aj a.locals) i) E s₃) E s :=
 V0 (χ:=λC s₀ H₀ ex aa e s'=>InC X C s₀ H₀ ex aa->notedBy (model X.prog X.w) X.A (compEnvC ag cl C X.env) (Zcg X C) e s') r T q t hc l h j (λcl C s0 H0 ex aa=>u cl C s0 H0 ex aa) B he v o λ_ _ _ _ I3 e f3 _ _ z=>Rc (z ⟨σ,I3,e,f3⟩) (λ_ _ y=>f _ _ _ _ y) λ_ _ y=>f _ _ _ _ y
end
section
variable {X:Cx}{aa:Ab (Af×Obj)}{σ:L2.St}{H:Hp}{s:Ac}{elt iter tg:Ag}{ifs:Ab Ag}{ag:Scope}{ai:Pos}{tgs:Ab Str}{fr:Ab Nat}{g:TG}{tt:TT}{te:TE}
def Z1x(hc:X.calm=true)(f:dP X.env.scope X.N ag fr=true)(hi:PI X tg iter wi)
  (E:∀cl C s0 H0 ex aa,PG (dA X (cY tgs fr X.N) ag cl C s0 H0 ex aa) tg g)
  (F:∀cl C s0 H0 ex aa,PTs (dA X (cY tgs fr X.N) ag cl C s0 H0 ex aa) ifs tt)
  (he:∀cl C s0 H0 ex aa,PE (dA X (cY tgs fr X.N) ag cl C s0 H0 ex aa) elt te)
  (hs:∀x,foldedSetIterable iter X.env x=pure x:=by intro _;rfl) :
  PE X (.ListComp elt [⟨tg,iter,ifs,0⟩] ag ai) (C7 wi tgs.length fr g tt te):=by
 intro aa s σ H Q I h;have a:=f;simp only[dP,Qak,Qaz]at a;obtain⟨⟨⟨⟨c1,c2⟩,B⟩,U⟩,G⟩:=a;obtain⟨cl,r,j,i⟩:=pP (ag:=ag) (ac:=X.env) λn l=>I.ok.has n (by have:=B _ l;show X.env.scope.names.lookup n=_\/X.env.scope.names.lookup n=_;simpa using this);rw[eval_ListComp];refine wpAny_comprehension_free (use:=none) rfl hs r (by simpa using c1) (λx hx hl=>by have:=G x hx;rw[hl]at this;simpa using this) (thn (hi aa s σ H _ I h) λx s1 h1=>thn h1 λitv s2 h2=>?_);obtain⟨it,fp,tn,J,S,rfl,K,T,v,y,P⟩:=h2;refine U9 (R:=Q) (RR:=λaj C=>compPost (model X.prog X.w) X.A X.xe none (EP X aa σ Q) aj C) K T v y hc f j i E F he P ?_ λ_ _ _ _ z=>z;intro D C s' p m M l O L hsz u t q;exact⟨m,l,λh' hs'=>⟨.ref D,p,M.turned (t':=s'.toks) (λb o hb e=>hs'.extBut b o hb e) O L (.inr hsz) u t,rfl,q⟩⟩
def yW(hc:X.calm=true)(hN:X.N.Nodup)(F:X.N[i]?=some x)(t:Loc X.env.scope x)(j:dP X.env.scope X.N ag fr=true)(hi:PI X tg iter wi)
  (W:∀cl C s0 H0 ex aa,PG (dA X (cY tgs fr X.N) ag cl C s0 H0 ex aa) tg g)
  (Y:∀cl C s0 H0 ex aa,PTs (dA X (cY tgs fr X.N) ag cl C s0 H0 ex aa) ifs tt)
  (he:∀cl C s0 H0 ex aa,PE (dA X (cY tgs fr X.N) ag cl C s0 H0 ex aa) elt te)
  (O:swapsWith (.ListComp elt [⟨tg,iter,ifs,0⟩] ag ai) (some (.Name x pos')) spos.line X.env=pure true)
  (hf:X.fn x=true\/X.env.scope.names.lookup x=some .local:=by first|exact .inl rfl|exact .inr rfl|assumption)
  (hs:∀x,foldedSetIterable iter X.env x=pure x:=by intro _;rfl) :
  PS X (.Assign [.Name x pos'] (.ListComp elt [⟨tg,iter,ifs,0⟩] ag ai) spos) (Z8I (C7 wi tgs.length fr g tt te) (zD i)):=by
 intro aa s σ H D I h;have f:=j;simp only[dP,Qak,Qaz]at f;obtain⟨⟨⟨⟨c1,c2⟩,U⟩,c4⟩,Z⟩:=f;obtain⟨cl,G,y,r⟩:=pP (ag:=ag) (ac:=X.env) λn B=>I.ok.has n (by have:=U _ B;show X.env.scope.names.lookup n=_\/X.env.scope.names.lookup n=_;simpa using this);rw[exec_Assign_Name_used _ _ _ _ O];refine Ra (wpAny_standAt (Ra ?_));show wpAny _ X.A (do let _ <- comprehension (.ListComp elt [⟨tg,iter,ifs,0⟩] ag ai) ag X.env _ (newList []) false (eval iter X.env) (some (assign (.Name x pos') X.env))) _ _ s
 refine Ra (Rc (wpAny_comprehension_free (use:=some (assign (.Name x pos') X.env)) (Q:=λ_ s'=>SP X aa D .next s') rfl hs G (by simpa using c1) (λx t hl=>by have:=Z x t;rw[hl]at this;simpa using this)
  (thn (hi aa s σ H _ I h) λx s1 h1=>thn h1 λitv s2 h2=>?_)) (λ_ s' hq=>Rb (Rb hq)) λ_ _ e=>e)
 obtain⟨it,fp,tn,J,H2,rfl,I2,T,L,S,rd⟩:=h2;refine U9 (RR:=λaj C=>compPost (model X.prog X.w) X.A X.xe (some (assign (.Name _ pos') X.env)) (λ_ s'=>SP X aa D .next s') aj C) I2 T L S hc j y r W Y he rd ?_ λ_ _ _ _ z=>z;intro p C s' E m I' B P R hsz l K q;show wpAny _ X.A (assign (.Name _ pos') X.env (.ref p)) _ _ s';refine wpAny_assign_Name (xE I' hN F t (v:=.ref p) (u:=.ref p) rfl (λs'' I'' ⟨a,hsa,ha⟩=>?_) hf);have M:C≠a:=by
  rcases ha with z|z
  .rw[z];exact R
  .exact λe=>l _ _ z e.symm
 exact⟨m,B.sameBut hsa M,λh' hs'=>⟨_,E,I''.turned (t':=s''.toks) (λb o hb e=>hs'.extBut b o hb e) P R (.inr hsz) l K,q⟩⟩
end
def tOr(K:Frag)(E:XK)(f:En->Aa D):TE:=λσ H Q=>tD K true [] (fNX f) σ H Q\/tXE K E dT f σ H Q
def Z80(fe:En->Aa D)(ac:En):Ab D->Aa D
 |[]=>none
 |d::r=>match fe (some (false,d)::ac) with
  |some (.exc C)=>some (.exc C)
  |some _=>Z80 fe ac r
  |none=>none
def rR(fr:Ab Nat)(src:En->Aa (Ab D))(fe:En->Aa D):En->Aa D:=λac=>match src ac with
 |some ds=>if ds.length<=1000 then Z80 fe (qH fr ac) ds else none
 |none=>none
theorem Z4t:∀{ds:Ab D},Z80 fe ac ds=some (.exc C)->∃(i:Nat) (d:D),ds[i]?=some d/\fe (some (false,d)::ac)=some (.exc C)/\∀(j:Nat) (d':D),j<i->ds[j]?=some d'->∃y,fNX fe (some (false,d')::ac)=some y
 |[],h=>by cases h
 |d::r,h=>by
  unfold Z80 at h;split at h
  .rename_i a e;cases h;exact⟨0,d,rfl,e,λj d' hj=>absurd hj (Nat.not_lt_zero _)⟩
  .rename_i y b e;obtain⟨i,f,h1,h2,h3⟩:=Z4t h;refine⟨i+1,f,h1,h2,λj d' hj hd=>?_⟩;cases j with
   |zero =>
    simp at hd;subst hd;refine⟨y,?_⟩;unfold fNX;rw[e];split
    .rename_i a z;cases z;exact absurd rfl (b _)
    .rfl
   |succ j=>exact h3 j d' (Nat.lt_of_succ_lt_succ hj) (by simpa using hd)
  .cases h
section
variable {X:Cx}{E:XK}{rs:Ab Nat}{elt iter:Ag}{ag:Scope}{ai px:Pos}{x:Str}{fr:Ab Nat}{src:En->Aa (Ab D)}{fe:En->Aa D}
def M6{K:Frag}{σ:L2.St}{H:Hp}{Q:VK}(h:tXE K E dT (rR fr src fe) σ H Q){N:VK} :
  C7 (tDI K rs src) 1 fr (zD 0) (tDT K fTT) (tOr K E fe) σ H N:=by
 obtain⟨ac,F,C,ok,e,_,q⟩:=h;unfold rR at e;cases h1:src ac with
 |none=>rw[h1]at e;cases e
 |some ds =>
  rw[h1]at e;simp only at e;split at e
  .rename_i G;obtain⟨n,P,B,I,l⟩:=Z4t e;have A:n<ds.length:=(Qah.mp B).1;refine⟨ac,F,ds,ok,h1,λJ H1 fp s1 gv dm cd=>?_⟩;intro u f;refine⟨λi k vs H2=>i<=n/\k=n-i/\H2 u=some (.lst vs)/\Same H1 H2/\vs.length=i,⟨n,QaY _,rfl,bC,bV f,rfl⟩,?_⟩;rintro i k vs H2 ⟨hi,hk,ha,sm,hv⟩;refine⟨ha,.inr ?_⟩;have M:=gv H2 (Kp.same sm fp) i;have w:i<ds.length:=Nat.lt_of_le_of_lt hi A;have hd:ds[i]?=some ds[i]:=Qam w;obtain⟨O,t⟩:=M.1 _ hd;refine⟨O,λx H3 y3=>?_⟩;obtain⟨j,f3,L,_⟩:=t x H3 y3;refine⟨⟨by simp[kB],by simp[kB]⟩,?_⟩;obtain⟨F',a⟩:=Z22 (fr:=fr) (ok.same ((s1.trans sm).trans j)) L;refine⟨_,F',true,a,rfl,λH4 s4=>yC ?_⟩;by_cases r:i<n
   .obtain⟨y,t⟩:=l i _ r hd;refine .inl ⟨_,F',y,a.same s4,t,λv H5 fp5 s5 r5 c5=>?_⟩;have p:Same H2 H5:=(j.trans s4).trans s5;refine⟨vs,p _ _ ha,gD (by omega),n-(i+1),by omega,r,rfl,bC,λb o l=>?_,by simp[hv]⟩;rw[aY (bL l f)];exact p _ _ (sm _ _ l)
   .obtain rfl:i=n:=by omega
    rw[B]at hd;cases hd;exact .inr ⟨_,F',C,a.same s4,I,rfl,λH' s'=>q H' ((((s1.trans sm).trans j).trans s4).trans s')⟩
  .cases e
def Z76(hc:X.calm=true)(b:dP X.env.scope X.N ag fr=true)(hi:QI X (.Name x px) rs iter src)
  (f:(cY [x] fr X.N).Nodup) (a:ag.names.lookup x=some .local)
  (he:∀cl C s0 H0 ex aa,PE (dA X (cY [x] fr X.N) ag cl C s0 H0 ex aa) elt (tOr X.K E fe))
  (hs:∀x,foldedSetIterable iter X.env x=pure x:=by intro _;rfl) :
  QE X true [] (.ListComp elt [⟨.Name x px,iter,[],0⟩] ag ai) (cX fr src fTT (fNX fe)) :=
 .mk (Z1x (tgs:=[x]) (tt:=tDT X.K fTT) (te:=tD X.K true [] (fNX fe)) hc b hi (λcl C s0 H0 ex aa=>dM (i:=0) f rfl (.inl (lookup_relabel_local a)) (.inr (lookup_relabel_local a))) (λcl C s0 H0 ex aa=>dJ) (λcl C s0 H0 ex aa=>PE.mono (he cl C s0 H0 ex aa) λ_ _ _ z=>.inl z) hs) λσ H Q h=>tJ h
def Z5s(hc:X.calm=true)(b:dP X.env.scope X.N ag fr=true)(hi:QI X (.Name x px) rs iter src)
  (f:(cY [x] fr X.N).Nodup) (a:ag.names.lookup x=some .local)
  (he:∀cl C s0 H0 ex aa,PE (dA X (cY [x] fr X.N) ag cl C s0 H0 ex aa) elt (tOr X.K E fe))
  (hs:∀x,foldedSetIterable iter X.env x=pure x:=by intro _;rfl) :
  PE X (.ListComp elt [⟨.Name x px,iter,[],0⟩] ag ai) (tXE X.K E dT (rR fr src fe)) :=
 PE.mono (Z1x (tgs:=[x]) (tt:=tDT X.K fTT) (te:=tOr X.K E fe) hc b hi (λcl C s0 H0 ex aa=>dM (i:=0) f rfl (.inl (lookup_relabel_local a)) (.inr (lookup_relabel_local a))) (λcl C s0 H0 ex aa=>dJ) he hs) λσ H Q h=>M6 h
end
section
variable {X:Cx}{E:XK}{rs:Ab Nat}{elt iter:Ag}{ag:Scope}{ai pos' px spos:Pos}{x y:Str}{i:Nat}{fr:Ab Nat}{src:En->Aa (Ab D)}{fe:En->Aa D}
def Z1p(hc:X.calm=true)(p:X.N.Nodup)(j:X.N[i]?=some x)(b:Loc X.env.scope x)(l:dP X.env.scope X.N ag fr=true)(hi:QI X (.Name y px) rs iter src)
  (n:(cY [y] fr X.N).Nodup) (a:ag.names.lookup y=some .local)
  (he:∀cl C s0 H0 ex aa,PE (dA X (cY [y] fr X.N) ag cl C s0 H0 ex aa) elt (tOr X.K E fe))
  (f:swapsWith (.ListComp elt [⟨.Name y px,iter,[],0⟩] ag ai) (some (.Name x pos')) spos.line X.env=pure true:=by rfl)
  (o:X.fn x=true\/X.env.scope.names.lookup x=some .local:=by first|exact .inl rfl|exact .inr rfl|assumption)
  (hs:∀x,foldedSetIterable iter X.env x=pure x:=by intro _;rfl) :
  QSx X E (.Assign [.Name x pos'] (.ListComp elt [⟨.Name y px,iter,[],0⟩] ag ai) spos) (rOr dT (rR fr src fe) (bJ i (cX fr src fTT (fNX fe)))) :=
 gP (.mk (yW (tgs:=[y]) (tt:=tDT X.K fTT) (te:=tD X.K true [] (fNX fe)) hc p j b l hi (λcl C s0 H0 ex aa=>dM (i:=0) n rfl (.inl (lookup_relabel_local a)) (.inr (lookup_relabel_local a))) (λcl C s0 H0 ex aa=>dJ) (λcl C s0 H0 ex aa=>PE.mono (he cl C s0 H0 ex aa) λ_ _ _ z=>.inl z) f o hs) λE σ H q=>tJ (xK q))
  (yW (tgs:=[y]) (tt:=tDT X.K fTT) (te:=tOr X.K E fe) hc p j b l hi (λcl C s0 H0 ex aa=>dM (i:=0) n rfl (.inl (lookup_relabel_local a)) (.inr (lookup_relabel_local a))) (λcl C s0 H0 ex aa=>dJ) he f o hs) λ_ _ _ _ h=>M6 h
end
section
variable {P:Aj}{w:Ak}{K:Frag}{mg:Str->Aa Ad}{ad:Ah}{N:Ab Str}{ah:Str}{ag:Scope}{f:Af}{cd:Ad}{A:Ai}{af:Ab Env}{s0:Ac}{H0:Hp}{E:XK}{m1:Bool}{rs1:Ab Nat}{e:Ag}{es:Ab Ag}{fs:En->Aa (Ab D)}{p ai:Pos}
 {N':Ab Str}{sc:Scope}{cl:Ab (Str×Af)}{C1:Af}{s1:Ac}{H1:Hp}{ex:Ab Af}{aa:Ab (Af×Obj)}
def Z8z:pV (CXe P w) (dA (cxE P w K mg ad N ah ag f cd A af s0 H0 E) N' sc cl C1 s1 H1 ex aa) E :=
 Z5u (X:=cxE P w K mg ad N ah ag f cd A af s0 H0 E) rfl rfl rfl λe s' h=>Rc h (λ_ _ z=>z) λ_ _ z=>z.elim
def Z06(c:dE P w K mg ad x dds k n F')(J:Room k (cxE P w K mg ad N ah ag f cd A af s0 H0 E).A)(j:NArgs na fs)(i:na+dds.length=n)(u:QA (dA (cxE P w K mg ad N ah ag f cd A af s0 H0 E) N' sc cl C1 s1 H1 ex aa) m1 rs1 (e::es) fs)(I:Gl (dA (cxE P w K mg ad N ah ag f cd A af s0 H0 E) N' sc cl C1 s1 H1 ex aa) x:=by rfl)
  (t:nDb x:=by decide) (he:starEach (e::es) (dA (cxE P w K mg ad N ah ag f cd A af s0 H0 E) N' sc cl C1 s1 H1 ex aa).env=(false,eval e (dA (cxE P w K mg ad N ah ag f cd A af s0 H0 E) N' sc cl C1 s1 H1 ex aa).env)::starEach es (dA (cxE P w K mg ad N ah ag f cd A af s0 H0 E) N' sc cl C1 s1 H1 ex aa).env:=by rfl) (hpl:(backTo ai (starEach es (dA (cxE P w K mg ad N ah ag f cd A af s0 H0 E) N' sc cl C1 s1 H1 ex aa).env)).any (·.1)=false:=by rfl) :
  PE (dA (cxE P w K mg ad N ah ag f cd A af s0 H0 E) N' sc cl C1 s1 H1 ex aa) (.Call (.Name x p) (e::es) [] ai) (tOr K E (aL F' dds fs)):=by
 obtain⟨M,fd,ps,dvs,ds,G,L,B,a,hd,l⟩:=c.ex;refine PE.mono (L2.pe_call (X:=dA (cxE P w K mg ad N ah ag f cd A af s0 H0 E) N' sc cl C1 s1 H1 ex aa) G J I L B a hd Z8z u t he hpl) λσ H Q h=>?_;rcases h with⟨ac,F,d,ok,h,q⟩|⟨ac,F,C,ok,h,hp,q⟩
 .have y:aL F' dds fs ac=some d/\∀C,d ≠ .exc C:=by
   unfold fNX at h;split at h
   .cases h
   .rename_i i;exact⟨h,λC e=>i C (by rw[h,e])⟩
  obtain⟨h2,o⟩:=y;unfold aL at h2;cases h1:fs ac with
  |none=>rw[h1]at h2;cases h2
  |some xs =>
   rw[h1]at h2;refine⟨ac,F,xs,ok,h1,λvs H' fp s r c=>⟨xs++dds,d,fp++[],by rw[Qaj,j.len ac xs h1];exact i,(Reps.weak _ _ _ r).append (l H'),h2,?_⟩⟩;have z:∀v H2 fp',Same H' H2->Rep K true H2 d v fp'->(∀b∈fp',H' b=none)->fp'.Nodup->Q v H2:=λv H2 fp' s2 r2 h2 nd=>q v H2 fp' (s.trans s2) r2 ⟨λb a=>.inl (s.free (h2 b a)),λ_=>⟨nd,λb a=>s.free (h2 b a)⟩⟩;cases d<;>first|exact z|exact absurd rfl (o _)
 .unfold aL at h;cases h1:fs ac with
  |none=>rw[h1]at h;cases h
  |some xs =>
   rw[h1]at h;exact⟨ac,F,xs,ok,h1,λvs H' fp s r c=>⟨xs++dds,.exc C,fp++[],by rw[Qaj,j.len ac xs h1];exact i,(Reps.weak _ _ _ r).append (l H'),h,λH2 s2=>q H2 (s.trans s2)⟩⟩
end
def uM(is:Ab Itm)(fb:En->Aa D):En->Res:=λac=>match gB is ac,fb ac with
 |some ds,some (.int i)=>match atI ds i with
  |some d=>if ds.length<=1000 then .ret d else .bad
  |none=>.bad
 |_,_=>.bad
section
variable {X:Cx}{E:XK}{es:Ab Ag}{is:Ab Itm}{b:Ag}{fb:En->Aa D}{m2:Bool}{rs2:Ab Nat}{ai p3 p4:Pos}
def Z1r(h:QIt X es is)(a:QE X m2 rs2 b fb)(hs:xC b:=by exact λ_ _=>rfl):QS X (.Return (some (.Subscript (.List es p3) b p4)) ai) (uM is fb):=.mk (gT (Z4c Z0j (L2.pe_lst h) a hs)) λE σ H ⟨P,ac,I,q⟩=>by
 obtain⟨F,hF⟩:=I.ex;unfold uM at q;split at q
 .rename_i ds i l n;split at q
  .rename_i d y;split at q
   .rename_i v;refine⟨P,ac,F,ds,I.same,hF,l,λvs H' fp s r nd a=>⟨by rw[r.length];exact Qbh (gD v),λp hp=>?_⟩⟩;have s1:Same H (upd H' p (.lst vs)):=s.trans (bV hp);refine⟨ac,F,.int i,hF.ok.same s1,n,λu H2 f2 s2 r2 c2=>?_⟩;rw[bS r2];obtain⟨w,f,t,x,j,o⟩:=Z0T r y;refine .inl ⟨p,vs,i,w,rfl,rfl,SqL.of (s2 _ _ bC),t,?_⟩;exact q w H2 f ((I.same.trans s1).trans s2) (x.same ((bV hp).trans s2)) (λb hb'=>(a b (j b hb')).1) (o nd)
   .exact q.elim
  .exact q.elim
 .exact q.elim
end
section
variable {X:Cx}{E:XK}{pre:En->Bool}{f fa fb:En->Aa D}{a b e:Ag}{ai:Pos}{m1 m2:Bool}{rs1 rs2:Ab Nat}
def Z7l(l:QE X m1 rs1 a fa)(n:QE X m2 rs2 b fb)(he:PE X e (tXE X.K E pre f))(h1:starEach [a,b,e] X.env=(false,eval a X.env)::starEach [b,e] X.env:=by rfl)(h2:starEach [b,e] X.env=(false,eval b X.env)::starEach [e] X.env:=by rfl)(h3:starEach [e] X.env=(false,eval e X.env)::starEach [] X.env:=by rfl):PE X (.Tuple [a,b,e] x1 ai) (tXE X.K E (tM fa (tM fb pre)) f) :=
 PE.mono (pe_tup (pa_cons l (pa_cons n (pa_cons he pa_nil h3) h2) h1)) λσ H Q ⟨ac,F,C,ok,h,hp,q⟩=>by
  unfold tM at hp;rw[Qak,Qak]at hp;obtain⟨d,hd⟩:=QaW.mp hp.1;obtain⟨j,i⟩:=QaW.mp hp.2.1;exact⟨ac,F,d,ok,hd,λv H1 fp s r c=>⟨ac,F,j,ok.same s,i,λv2 H2 fp2 s2 r2 c2=>⟨ac,F,C,(ok.same s).same s2,h,hp.2.2,λH' s'=>q H' ((s.trans s2).trans s')⟩⟩⟩
end
inductive Z6h:List Expr->List D->Prop
 |nil:Z6h [] []
 |str {s:Str}{k:Nat}{p:Pos}{r:List Expr}{ds:List D}:Z6h r ds->Z6h (.Constant (.str s) k p::r) (.str s::ds)
 |int {n:Int}{k:Nat}{p:Pos}{r:List Expr}{ds:List D}:Z6h r ds->Z6h (.Constant (.int n) k p::r) (.int n::ds)
def fCs(ds:Ab D):En->Aa (Ab D):=λ_=>some ds
def B1(h:Z6h es ds):QA X m rs es (fCs ds):=by
 induction h with
 |nil=>exact aP
 | @str s k p r ds _ ih=>exact aB (e:=.Constant (.str s) k p) (aI (i:=s)) ih
 | @int n k p r ds _ ih=>exact aB (e:=.Constant (.int n) k p) (aE (i:=n)) ih
end PD
set_option maxHeartbeats 0
set_option hygiene false
local macro_rules|`(tactic|walk_at $s)=>do{let c:=s.getString.toList;if c.head? !=some '@' then{Lean.Macro.throwUnsupported};let Q:=#[←`((by rfl)),←`((q0,q1)),←`((q0.1)),←`((q0.2)),←`((fun _ _ _ _ _ _ => q0)),←`((q0::q1)),←`((λi j=>q0)),←`((show List.Nodup (q0:Ab Str) from by decide +kernel)),←`((λ_ _ _ _ h=>h)),←`(_),←`((q0<q1)),←`((λ_ j=>0<=j)),←`((λi j=>.int (i/2^j.toNat))),←`((q0-q1)),←`(⟨q0,q1⟩),←`((by decide +kernel)),←`((by decide)),←`((λac _=>ac)),←`((by refine aV ?_;refine B1 ?_;repeat constructor)),←`((- q0)),←`((q0<=q1)),←`((q0+q1)),←`((by simp)),←`((.str "!\"#$&'()*+,.:;<=>?\x40[\\]^_{|}~ABCXYZ")),←`((λ_ j=>0<j)),←`((q0%q1))];let N:="2 1 C Y 3 1rL #rL bJ kS qp 4 1rx yw, !rL 0 !rx 0 tEt6 yv, #rx Qs QE.weak (xE 5 rjt4 bD 3( &rL y{, .str wJyx yy, Hr+ fX #V its aZ QE.flat tEt4 fOr 1r1 +rM fBI At3 aJ cV eZ 6 7 b% kI PP 5C -rL aB 1 cX fV VsE &rx 3$ rfl .int 2 -rx OrM =J t5r; yfc x)c fAd dL dN 8 r#r# r;t8 HP aG fIx bA dZ Y.yf 5ry wKwL Uy} .r* r>v* Uz9 w?b Qv CE CW 3 jD !r1 5? t7yk 3ss &r1 aH bO fP bF CL fI0 .inr rZ #r1 /rN xCxD #[ r$< r>x. r(un z>, aD fEq bR cR cC fIn kD dC kO dt3 etF tEr< v&tn [tF 30 WW 3) ylrE Uz6 7rn 1s0 )rm sCr& ryI cH rOr oV gS 9 tEsg 6r* VrM 1tG cxH x>r< ir# LtI WP ;to $r? !s# v,sh .sD aC aO Qc false Ro gtN Qg kN cL kE cO QE.weak qG fMu mJ jU z!, rjsg 1E |MtH // dvv z7, ip !rU wJz; tEtp :rL $r2 B. r;r# x/sh :rx aR true bH fMo i Y.yc Y.yd cO lA qQ iO 3ul z+x, sAz4 yisM t7$ ,G x*Z +rW w=sr r(x1 !V t94 s/r< rMre D# r=xG sqE 1& s/sg s/t4 rVrz u$G rPtN sP% ygxI aA QW.qt fB gN eR vE CD yV gH [w8 1# s.5 w;b yhw8 twtv xAtn w>8 t9si |S= ymtG ynyo ymrU Vt: ro* sQr3 $r3 r2ty wVe r?x+ /s& Q6 strz sMs2 7! r;ts 1v0 1sp s1r} |Vt| fC aL aN fB1 dT dI dH fDv fSu wN qC a F8 F6 pA eO x>sg w8Z rUr$ .xF 1v) vwb =) 1rl BrP r-X rjr< wTzA x*tn yhtF 1V |Wyj rFyo r=zL *! 3xM )$ tK; wWt3 Jto r?ty vysR wDv1 Ztn s4ry sStn rPsk r-r} yptH wJzM s.? [wA Lu& xJu! yfwM |Zt| aV fNX sB1 bX tM yzwN cc |Lz) w:xG #rU s?ye z2r+ sqrV w<b |Ptu 5rN sBsB r;p /rX r,2 rkr} sire Fl 2r* 7zC _tL wBu# v-zE x0tz xKv. vzV Mre rZJ Ftv ;u( Hr[ sTD HW +) #s0 (rO Yu) r>$ &s! |[e s$s$ tKwE r]su x3x4 0zN ,rp .sI |]v) BsU s5p #% r%w9 |^, 6sI #sv |`zQ r^% xN, |ar7 X5 cU |bt} u*I 6s1 &s# rqs( Lx6 ewA s%s% !% umu! xO, ,sO ,u+ zRj zSzT |ctx sGtx r)tx |d, wPxI s?s? rs bM fTT t tN nS oQ uJ pM wP gE gtT dY G0 G4 vR Z1o vQ vT F7 jJ mI xAZ 5r% sprz (4 sDw9 z8sj sFsN vxz< 1! rYrz zB, Hrf Br- |RzF Zrz x7D x8( r.s6 x9) twrA VzV #$ !_ FrM wF] +tO &$ )( ou, SrL yrE yqsJ D) #E Ft; s$R x:; 9J #! sKP v2r+ rjup 3> 0rm w=s. v3rE wG. tQs) |ezX swx2 |ftn |gtP .v( zYys #u- ytsO s7wH x<zZ 6w> |hrN B` |ix; r_tM r`v4 |jtH s%q z]c |nz_ x=v5 tzZ u/rz xJsB myu nu0 x*uq z`, x2sp oG 10 fCs 16 fSh fK bZ qS fI2 dG eB Z01 Z45 oC Z3E Z41 B4 lX lW vP Z4f lV B0 mQ uP x?Z z$, r=rO z%c |Oz/ r,. v(v+ x-2 |QsA sFz= wUt3 zD, #tG (< %zH /6 u%sr hr aX rIf .cons bT Y.y0.cl Y.val decide iZ jA .bl .inl .non M3 Z6g 8 mT eS kH Z6f Builtin.bitAnd fIf gK uN zV gOp F5 Z00 Z03 Z6l Z2U vG pQ N3 Z6 Z32 G3 Z2Z Z44 A7 rT Z06 Z8 Z9 xM Z2T K1 Y.yt Y.yu oW Z02 |KwM v&Z r|r& ttz& Uz0 04 z?wS LrD !s! rD# |Tr3 x+r4 .I r6v/ r|wC 1[ |Xs3 =0 Xt} ./ r4tF aF Qn aP i j cZ cG fSl PassesOwn.never iP fM gT fN nB jN oZ Z37 17 jY Zae nH uM jX Zaf qZ .dk F4 Z0w Z2t vZ fZ fJ oM oJ rA iQ un2 jF dW eG gZ Z1Z Z1Y Z3D iV 5 nA iR Z7g mR kG rR oK 4 iI hG cF pF bU zZ pD F0 qR E8 fG 40 12 27 Z7p kP Z47 ZaN uI PD.boot_str Z4k xN S4 Z1r uH Z40 Z1t zJ Z1u Z3Z yR Z42 F9 Z4I rV xB V3 Z2f zL M8 rW wZ uG uE Z46 Z1s Zay Z78 zK yn G2 N1 M9 zI V2 qE uF oS N5 Z1B uD Z2R Z8h Z3Y R9 Z3V Z3X Z2i xBy| s?r{ x)wM r{wP 83 sCz* wQvv z1% Brk #z5 xDxC wRyj wOzI R! 1- 5X |_x5 t5r8 aE aI aW aT aU bI hr.mono cI bQ NArgs.nil bN fr Or.inl cJ dR m1 nd Y.ye ad Y.b 2 bG pre nR cT dS kZ gQ iM mE dJ nG gP gG gJ iE mH jC jB tV dM jT dF iX Y.yj mY K9 tO sL sK rs1 eQ Y.yk.cl Y.yl xO fPw QE.more G8 qU Y.ym is sN G1 vS fY Zad lJ iU sT jW 11 17 9 lK 64 1024 Z0d xY jP kQ Z2r Z3C iJ tX Builtin.bitOr Builtin.bitXor pE sS lL Z6X Zce Z86 tW xX iH sU fT sV Z0a mU mS Z0e Z0b Z3q Z4B jE iF lM rWh W6 60 Z1m Z2s O2 gPl Z0c Z1A pX E7 1103515245 7919 2147483647 2147483629 69621 2147483587 Zd2 N4 ZbG Z0P Z2h Z69 Q2 Z0Q Zaq bN Z68 yM A5 Z5l ZbC Z6k Z75 A6 Q3 Zd7 ZbW Z0O Z67 Z0R Z77 Z9f Z3W Z9j Z9r Q1 Z66 A4 Z6a xA Z6b Zao Z3z Z3x Zcl Zap Z9h Z9p Z5i N2 A3 Z0S Z74 yp yo Z9m ZbR yq Y.zq Z9o Z9F Z9C yr Z9G vV Z9D Z1p Z76 Z9e Z5s Z7l Y.zr Z9n Z7m ZbF pv xQ Zck Z5v il j kk Cs Zdw Y.z0 Z9c Y.zb Y.zc Y.z9 Y.za Y.zd Y.ze Y.zf Y.zg Y.zh Y.zi Y.zj Y.zk qT ydz# umz( wOz, yez- |Nz. ygz3 tJz: sMU $zG r2x+ sGt{ |UsG ynzJ rFzK sHt{ |YsH &- r6! v(zO zPsA yi3 Qf B6 uosH xPzU ryzW 3x? tRrz BwI tMrk wOz[ u.z^ |kxL |lxL |mc".splitOn " ";let B:="nn00nbb211nbbbnblbbb21bnb1bbb1bbb2bb11b2bb3b204nnb1bbb2l42bbbq01lbbbbbb256nbbb221q10bbbbbbb100l0bbbbb11100310bbbbbbbb123002222bbbbbbbbbbbbbbb1301nbbbbbbbbbbbbbb122q0111003322220bbbbbbbbbbbbbbbbbqq2002a001111bbbbbbbbbbbbbbbbbbbbbbbbb211202024bbbbbbbbbbbbbbbbbbbbbbbbbbbbbb131205122q3202222bbbbbbbbbbbbbbbbbbbbbbbbbbbbbbbbbbbbbbbb11222bbbbbbbbbbbbbbbbbbbbbbbbbbbbbbbbbbbbbbbbbbbbbbbbbbbbbbbbbbbbbbbbbbbbbbbbbbbbbbbbbba10a111022311123322112bbbbbbbbbbbbbbbbbbbbbbbbbbbbbbbbbbbbbbbbbbbbbbbbbbbbbbbbbbbbbbbbbbbbbbbbbbbbbqqq0n1n2121422q13615011201515bbbbbbbbbbbbbbbbb00313011q2111020l111023qq1q41230414111103041154111q0001q8bbbbbbbbbbbbbbbbbbbbb010q00333071120303n123212123201111111112222301l0212232l2221q2125312nnn0143101752123q10415<11111111111331410311111111011160311bbbbbbbbbbbbbbbbbb00130311303a103a0000p1a138q1011013131131341110qq31231a10022q2020a042131111nqll1nn1111001122111011111111111110111121nqq1101115:nnnnnn213111111511143141100111901111111111111101311130021003230215;717304211310aaaa10J0000000000001bbbbbbbbbbbbbbbbbbbbbbbbbbbbbbbbbbb".toList;let A:="!#$%&()*+,-./0123456789:;<=>?ABCDEFGHIJKLMNOPQRSTUVWXYZ[]^_`abcdefghijklmnopqrstuvwxyz{|}".toList;let mut L:Array (Nat×String×Char):=#[];let mut i:=0;let mut j:=0;let mut NN:=N;for b in B do{if b=='q' then{L:=L.push (j,"",b);j:=j+1}else{L:=L.push (0,NN.head!,b);NN:=NN.tail!}};let mut k:List (Lean.TSyntax `term):=[];let mut w:="";let mut m:=0;let mut x:=c.tail!;for _ in [0:99999] do{match x with|[]=>{break}|y::z=>{x:=z;if m==1 then{if y=='~' then{k:=Lean.Syntax.mkStrLit w::k;w:="";m:=0}else{w:=w.push y}}else if m==0&&y=='~' then{m:=1}else{i:=A.idxOf y;if m==0&&i>=77 then{m:=i-77+2}else{let (q,n,b):=L[if m==0 then i else 77+(m-2)*89+i]!;m:=0;if b=='b' then{x:=n.toList++x}else if b=='n' then{k:=Lean.Syntax.mkNumLit n::k}else if b=='a' then{k:=⟨Lean.Syntax.node .none `Lean.Parser.Term.namedArgument #[Lean.mkAtom "(",Lean.mkIdent n.toName,Lean.mkAtom ":=",k.head!,Lean.mkAtom ")"]⟩::k.tail!}else if b=='l' then{let h:=n.toNat!;let v:=(k.take h).reverse.toArray;k:=(←`([$v,*]))::k.drop h}else if b=='p' then{let h:=n.toNat!;let v:=(k.take h).reverse.toArray;let r:=k.drop h;k:=Lean.Syntax.mkApp r.head! v::r.tail!}else if b=='q' then{let a:=k;let mut h:=0;for e in [0:2] do{if (Q[q]!.raw.find? fun y=>y.isIdent&&y.getId.toString==s!"q{e}").isSome then{h:=h+1}};let u:=h;let r←Q[q]!.raw.replaceM fun y=>pure (if y.isIdent then(if y.getId==`q0 then some (a[u-1]!).raw else if y.getId==`q1 then some (a[0]!).raw else none)else none);k:=⟨r⟩::k.drop h}else{let h:=b.toNat-48;let v:=(k.take h).reverse.toArray;let f:Lean.TSyntax `term:=if n.front=='.' then ⟨Lean.Syntax.node .none `Lean.Parser.Term.dotIdent #[Lean.mkAtom ".",Lean.mkIdent (n.drop 1).toName]⟩ else ⟨Lean.mkIdent n.toName⟩;k:=(if h==0 then f else Lean.Syntax.mkApp f v)::k.drop h}}}}};`(tactic|exact $(k.head!))}
set_option hygiene true
namespace G
open PySem PySem.Spec PyProof.Rows L2 PD
def top(i:Nat):Stmt:=PySem.Challenge.pw_stuckwire_k60_lines_read.main.body.getD i (.Pass ⟨0,0,0,0⟩)
abbrev ZaH:Stmt:=Z0n (top 68) 1
abbrev mF:Stmt:=Z0n (top 1) 0
abbrev qN:Stmt:=Z0n (top 68) 0
def gK(C:Af):Ab D->Aa D:=λds=>match ds with
 |[i,r,o]=>match (bD (aD 1)) [none,some (false,i),some (false,r),some (false,o)],(cX [] (dZ (aD 2)) fTT (fB1 nA (aA (aD 0) aF))) [none,some (false,i),some (false,r),some (false,o)],(fB1 W5 (aA (aD 3) aF)) [none,some (false,i),some (false,r),some (false,o)] with
  |some a,some b,some c=>some (.obj C ["ins","rows","outs"] [a,b,c])
  |_,_,_=>none
 |_=>none
def Z0f(C CD:Af):Ab D->Aa D:=λds=>match ds with
 |[]=>match (fB1 (gK C) (aA (kI 0) (aA (bO (aA (tN (aA (kS "fix") (aA (kI 0) aF))) aF)) (aA (bO (aA (kI 0) aF)) aF)))) [none] with
  |some a=>some (.obj CD ["circuit"] [a])
  |_=>none
 |_=>none
def mW(C:Af):En->Res :=by walk_at"@=ur#s!)~0123456789~+rQrev6R(~0~MsxrFwRwQwUvvtSr.rAsirFwRwQwUvvr.u1rAsira~0~u2sx^sx^sxKt9r!"
def fY(C:Af):Ab D->Aa D:=cA 2 (mW C)
def yH(C:Af):En->Res :=by walk_at"@v7sV$zau3u(tTusx.)NKv6RsCwCr!"
def dF(C:Af):Ab D->Aa D:=cA 3 (yH C)
def pI(C:Af):En->Res :=by walk_at"@ra~fix~Mra~not~MKr.!rlsxsyu4sW)<tOrgra~not~MsXr$;si^t9Dra~and~+~or~+~xor~+sYrQsxr.&rlsxsyu4);si^sx^t9r!"
def lJ(C:Af):Ab D->Aa D:=cA 2 (pI C)
def rN(C:Af):En->Res :=by walk_at"@tUv8Nro(rQ(rmrm~ins~grer>(rm4s6sZKKKv6syrmsurirUu5(szrm~outs~gretUr>(sz4s6Ns{r>(sz4xQrUNKKKx7s[us(rmwE4*v7twr=s|r=zbsV$zcrZ)u5x7s[v9v:*PRsyszsu);u6"
def iU(C:Af):Ab D->Aa D:=cA 3 (rN C)
def nZ(C:Af):En->Res :=by walk_at"@tUr.sWNs{r.&VNsyrOFs]u1riv;u5syu4sWu5KKK~line~u7r.&rlra~0~u2K~wire~u7s^<u8"
def jY(C:Af):Ab D->Aa D:=cA 1 (nZ C)
def nY(C:Af):En->Res :=by walk_at"@v<xR=rOs|s]J*sys|tvu1riv;u5~line~u7~str~)xSsi(sz~0~u2^~wire~sTs[sJrr"
def jX(C:Af):Ab D->Aa D:=cA 2 (nY C)
def hV(C:Af):En->Res :=by walk_at"@r.tLr.v=v>syrOsWtVu1riv;u5KK~line~sTs[(Fr=sWtV*rG)sVs{r>rZur(~01~+rQrev?4tSN~line~u7R=rOsWtVr((~0~u2v?r]r(r.FsZv?s*rosZ~wire~u7~0~u9rQ~1~u9rQ^~none~+D~good~+~0 1~vArg~1~u9rQsXrHu6P"
def jW(C:Af):Ab D->Aa D:=cA 3 (hV C)
def yG(C:Af):En->Res :=by walk_at"@#rorW*v7sV0~/~M#rorR#s|0<xTwLR#sJW"
def sT(C:Af):Ab D->Aa D:=cA 3 (yG C)
def Z0s(C:Af):En->Res :=by walk_at"@#(~ ~+uttW)u4*~~u9rQrItLu:~faults~+~idle~+~lean~+sYrQre^K~line~sTs[s0~new~M~circuit~sTrB~ok~+rB3t<t<rg$zdazeu3J4xUr+u:~give~MrIv>^$xV3~0~+~0~vA0wXJs[s0~stuck~MrI&rl^u:~leg~MrI-rl^K$xVu3s[s0~tells~MvBxRu3*&wV~none~+~0~vArg>~1~MsXrHrB3t<t<rg~str~>xS4xUPr+u:~named~M$zfu3DrItL~1~+~none~+~1~+sY~faults~+~idle~+~lean~+sYu:xWrHD~line~sTu6r[P"
def fS(C:Af):Ab D->Aa D:=cA 4 (Z0s C)
def kT(C:Af):En->Res :=by walk_at"@!~ /-0123456789adfinost~+*#zgE-u,!zht3*r+&0#vzErIsErH*-#oEr.u)sE*#riE&u,u;Yr=t=(u<w:t=uus[riE&_v>u;Yr=t=>uu(u<w:t=uuDu;Yr=t=>uu(Yw:t=uuu6W"
def kQ(C:Af):Ab D->Aa D:=cA 5 (kT C)
def pJ(C:Af):En->Res :=by walk_at"@#~~A~00~A~01~A~+1~A~-1~A~1_0~A~2~A~/~A~ins~A~outs~A~fix~A~A~A~0~A~1~A~x~A~1000000000~A~9~Aziv{r<*##~not~A~and~A~10~A~new~A~none~A~give~A~-0~A~0x1~A~016~Azjv{r<uvvCr>)4sErHu8"
def lK(C:Af):Ab D->Aa D:=cA 2 (pJ C)
def jR(C:Af):En->Res :=by walk_at"@!#oEr.sE*#riE&u,u;0s](0u)tvs*s[riE&_v>u;0s](0rHrWs*(0tvs*Du;0s]$zk3#vzEJrWs*(0u)tvs*Hrr"
def jP(C:Af):Ab D->Aa D:=cA 3 (jR C)
def Z0r(C:Af):En->Res :=by walk_at"@#s^-_tW~new~+~ins~+rC)SVrgs^-s}vDsXs+l4sY*&v/E:_*tX>s8-s!:s_Eu<t:*S)Ylrgs9os}vDsXl*T~fix~+~not~+~and~+~or~+~xor~+s`sgr<s9:_rHtW!~/~+TrL<rCs9zls}wYFsWvE<tOrgTrL~fix~u2sXr$rjt6sE4sYuvs{s9:_FN!rCs9zms}wYFvErjt6sE4rRr+r[yq!~/~+~outs~vAuvtX#d!d&d#d!d1dv|dxQdwZv{r<vFo_r$s8-s!!rC1:Eu<t:wYF)>lrgvFos}vDsXlrjt6sE4rRvGr[W"
def Z0d(C:Af):Ab D->Aa D:=cA 8 (Z0r C)
def vB(C:Af):En->Res :=by walk_at"@(vD~1000000000~+~9876543210~vA)v|s}v=r$rOF)vz_lr=t=DrC1d1d1d#d!d&dodridwZv{r<(os}o_r$4r!"
def mT(C:Af):Ab D->Aa D:=cA 2 (vB C)
def yF(C:Af):En->Res :=by walk_at"@#rari_tW$w[3v/Es_E;rCvFv=rgvFsWt:vDsXl4$w[31:E1SE;sY*tU)&VN$znhvH&rl~give~+~faults~+~idle~+~lean~+s`r<s^-_rH!s0<tOrOFrgs^-u,sXls]vH-rl~stuck~sT0wXvH:rl~leg~+!s0<rCs^v=4sY0u4s*vHSrl~tells~sT0rOsWs]s*vHTrl~tells~+!s0<rCs^v=4!vI<s`r<D&~named~sT*tXFs^&_ls8-s!&vBw[3v/Eu<t:s_E;~0~+~1~+~0~+~1~+~01~+s`sgr<vFu<t::_rHtOuvR&sJr[r[W"
def xY(C:Af):Ab D->Aa D:=cA 5 (yF C)
def L6(C:Af):En->Res :=by walk_at"@v<zoh*1TE-u,~ ~+$zpr](;t>D1TE-_v>$zq3~ ~u9t>(;D~ ~u9t>Hrr"
def J8(C:Af):Ab D->Aa D:=cA 2 (L6 C)
def qB(C:Af):En->Res :=by walk_at"@tTtY~ins~9N$~rows~9tY~ins~9t;r$tSr$~fix~M^F$~rows~9tY~ins~9t;r$Fr$t;rWDs$P"
def iJ(C:Af):Ab D->Aa D:=cA 2 (qB C)
def Z1R(C:Af):En->Res :=by walk_at"@ra~fix~MroDs$P"
def qZ(C:Af):Ab D->Aa D:=cA 1 (Z1R C)
def pH(C:Af):En->Res :=by walk_at"@tUtY~ins~9Ns$r+$xXa~rows~9tY~ins~9t;r$Jr!"
def eS(C:Af):Ab D->Aa D:=cA 2 (pH C)
def L5(C:Af):En->Res :=by walk_at"@#33xYt3*x8$~outs~9sV#0sCwCxZR3zr$~ins~9u=~rows~94lvJ$~ins~9vJs|s/tpu>>)x[aw]=>;r(-s!vKr+Rzs)4Hrr"
def kH(C:Af):Ab D->Aa D:=cA 5 (L5 C)
def wJ(C:Af):En->Res :=by walk_at"@#t!aw^hsVaztvLr(u>#~wire~+0<><s/uprRR3x]$w]vLs8-:euwvKPR#sJW"
def fK(C:Af):Ab D->Aa D:=cA 6 (wJ C)
def P8(C:Af):En->Res :=by walk_at"@r|(sl~good~OD~ ~O=surJrCv*]t>r!"
def tX(C:Af):Ab D->Aa D:=cA 1 (P8 C)
def L8(C:Af):En->Res :=by walk_at"@(rorM~none~OD~ / ~O=rJ$zuh]t>r!"
def jF(C:Af):Ab D->Aa D:=cA 1 (L8 C)
def Z1S(C:Af):En->Res :=by walk_at"@!tS*sqew_()rjtpu?uw!rFzvs30rFzws3>YrArA*R0<u8"
def rA(C:Af):Ab D->Aa D:=cA 5 (Z1S C)
def U3(C:Af):En->Res :=by walk_at"@rG$~outs~9rJvCrH]H"
def oM(C:Af):Ab D->Aa D:=cA 2 (U3 C)
def wH(C:Af):En->Res :=by walk_at"@&ra<*>~fix~M0s^s+DuAuAr[P"
def lL(C:Af):Ab D->Aa D:=cA 4 (wH C)
def Z0q(C:Af):En->Res :=by walk_at"@:![$xXhrJvCrH]*sCYsl-s0~leg~M-vI)rM^^s$r+:sJW"
def pE(C:Af):Ab D->Aa D:=cA 6 (Z0q C)
def U1(C:Af):En->Res :=by walk_at"@sC>sl&s0~wire~M&vI)rM^^0&!Es+DwFr!"
def sS(C:Af):Ab D->Aa D:=cA 4 (U1 C)
def Z4r(C:Af):En->Res :=by walk_at"@-t!rG)r(:s!vKx8$~rows~9r(Ss!Tr>Y4*o$zx3vETrLY0>s`sgt4*-$zyazz3vEorL0saTrL0>s`t4rRWR-sJrr"
def vZ(C:Af):Ab D->Aa D:=cA 9 (Z4r C)
def pL(C:Af):En->Res :=by walk_at"@FF(v}v}vJH"
def fJ(C:Af):Ab D->Aa D:=cA 1 (pL C)
def L7(C:Af):En->Res :=by walk_at"@#t!tX(s8x1uAs$WR#sJW"
def fZ(C:Af):Ab D->Aa D:=cA 4 (L7 C)
def Z1Q(C:Af):En->Res :=by walk_at"@$x^=$x_a~ins~vM$x`a~ins~vM)s`t4H"
def oJ(C:Af):Ab D->Aa D:=cA 2 (Z1Q C)
def wF(C:Af):En->Res :=by walk_at"@$xa=$xbtZ;H"
def dY(C:Af):Ab D->Aa D:=cA 2 (wF C)
def uX(C:Af):En->Res :=by walk_at"@!$uxwW[(JtW1e)rJ$xcr]$uxrZ(;;]r!"
def iQ(C:Af):Ab D->Aa D:=cA 3 (uX C)
def Z7W(C:Af):En->Res :=by walk_at"@v<w!h*3w_tYxdtZrjtp)tLxewFxe]r!"
def Z0e(C:Af):Ab D->Aa D:=cA 2 (Z7W C)
def gL(C CW:Af):En->Res :=by walk_at"@r|)slz{r+sKtT#vI$~ins~9u=~rows~94lNr3tyu:~leg~MtTvNEu=w]=#vI;4N^r3tyW"
def bZ(C CW:Af):Ab D->Aa D:=cA 2 (gL C CW)
def P7(C:Af):En->Res :=by walk_at"@(tLt[DrFw`s3((z|rAz}vJr!"
def tW(C:Af):Ab D->Aa D:=cA 1 (P7 C)
def U0(C:Af):En->Res :=by walk_at"@$xdtK<rW;tSrHH"
def xX(C:Af):Ab D->Aa D:=cA 2 (U0 C)
def qA(C:Af):En->Res :=by walk_at"@${!a{#tZJH"
def iH(C:Af):Ab D->Aa D:=cA 2 (qA C)
def nX(C CW:Af):En->Res :=by walk_at"@t#w#tZt$w#tKrsw$rf!${$tZ*r|0sl~none~+rCx.war!vO"
def eG(C CW:Af):Ab D->Aa D:=cA 3 (nX C CW)
def wG(C CW:Af):En->Res :=by walk_at"@wbwctY~ins~9w%1rUsZr3ty"
def dG(C CW:Af):Ab D->Aa D:=cA 2 (wG C CW)
def U2(C:Af):En->Res :=by walk_at"@rG(rJrFw`s3wbwc()w%FrA]H"
def sU(C:Af):Ab D->Aa D:=cA 2 (U2 C)
def yJ(C:Af):En->Res :=by walk_at"@vBuxvL*&[)rJ${%r](;]r!"
def sV(C:Af):Ab D->Aa D:=cA 4 (yJ C)
def nM(C:Af):En->Res :=by walk_at"@t[rW$w!hs*H"
def fT(C:Af):Ab D->Aa D:=cA 1 (nM C)
def Za5(C:Af):En->Res :=by walk_at"@!sqr4${&hr(${(rZ>(sa)rMv?H"
def Z0a(C:Af):Ab D->Aa D:=cA 3 (Za5 C)
def nW(C CW:Af):En->Res :=by walk_at"@vNew_)0rjtpu?uwt#w&=>;t$w&=>rsw$rfr>Y4u=~outs~94sZr3tyPR$xfa{)tK0saJHvO"
def gZ(C CW:Af):Ab D->Aa D:=cA 5 (nW C CW)
def L9(C:Af):En->Res :=by walk_at"@&rGxM$~ins~9s8unrFw`s3wbwcvCw%FrA]*$x^=>F0s`t4r!"
def mU(C:Af):Ab D->Aa D:=cA 4 (L9 C)
def L4(C:Af):En->Res :=by walk_at"@$xa=${*tK0sa;H"
def mS(C:Af):Ab D->Aa D:=cA 3 (L4 C)
def lO(C CW:Af):En->Res :=by walk_at"@t#w#tZt$w#tKrsw$rft#w&vLt$w&x:rsw$rf~ ~+a{+x:)sarJrCv*]t>HsKW"
def dW(C CW:Af):Ab D->Aa D:=cA 3 (lO C CW)
def kL(C CW:Af):En->Res :=by walk_at"@rb~give~gt#xguB)!tGsat$xguB)!tGsatovPrb~tells~gt#xhuB;t$xhuBrsvPrb~named~gt#xiuB)!tGsat$xiuB)!tGsatovPrb~idle~g$xfa{,hJDrCu=w!h44r!sKrr"
def fG(C CW:Af):Ab D->Aa D:=cA 2 (kL C CW)
def wI(C:Af):En->Res :=by walk_at"@v<uxwW[(J*aw!hsV$xcr]$uxvL;tLs$r+Rt[u8"
def lM(C:Af):Ab D->Aa D:=cA 3 (wI C)
def Za6(C:Af):En->Res :=by walk_at"@ra~fix~MwFDs$P"
def Z0b(C:Af):Ab D->Aa D:=cA 2 (Za6 C)
def rL(C:Af):En->Res :=by walk_at"@#33xYt3*tX$~ins~9s8x1vK&t!aw^hsVtT0$~ins~9N#0$~ins~9r>>4lxZvB{-a~rows~90$~ins~9t;r$);rRPr+R$wd$~ins~9>rG$~outs~9rJvCxj]s/t6u6"
def jE(C:Af):Ab D->Aa D:=cA 4 (rL C)
def pZ(C:Af):En->Res :=by walk_at"@!$xbtZ*vBx`a~ins~vM*-~fix~+tSvQ~fix~+FvQtO*:tS$~ins~9>$~ins~9u){.xkxk{/*3x]$x_a~ins~vMs8STeuwvKaw^hr(Ss!0vEr$s9x[reuAuArrr+R${0awd$~ins~9Y:!e$~outs~9rJ)0(r$xj]s/t6Ju6W"
def iF(C:Af):Ab D->Aa D:=cA 10 (pZ C)
def Z7U(C:Af):En->Res :=by walk_at"@v<{1=t[;tW${2r]J*sC0sluAP{3#sJrr"
def Z0c(C:Af):Ab D->Aa D:=cA 3 (Z7U C)
def rO(C:Af):En->Res :=by walk_at"@(~~Ms{r.riVNKv6ra~0~M(~0~u2^v6xl=urun(~0123456789~+rQt9]4u8"
def iV(C:Af):Ab D->Aa D:=cA 1 (rO C)
def kR(C CE:Af):En->Res :=by walk_at"@!t!v7r(u>$xmvRJu(t%-us>4*tTY)Nt%!Y<rRsKrrvGsKW"
def bX(C CE:Af):Ab D->Aa D:=cA 5 (kR C CE)
def uZ(C CE:Af):En->Res :=by walk_at"@#(~ ~Out*rb~ins~grer>)4s6sZKt%sQr2tquCx9orUv:;s:tquCx9orUv:rsrm<v2W"
def iR(C CE:Af):Ab D->Aa D:=cA 2 (uZ C CE)
def rH(C CE:Af):En->Res :=by walk_at"@!(~ ~Out*vS~outs~gret%tUrIs6Ns{rFwes3rIv:v|rUNKt%sQr2tqrZsu);s:tqrZsu)rsv2rr"
def kG(C CE:Af):Ab D->Aa D:=cA 3 (rH C CE)
def uY(C CE:Af):En->Res :=by walk_at"@!(~ ~Out*&vS<*~fix~#r&~not~#r&~and~!r&~or~!r&~xor~!r&xn{4>4rFwes3rIv:sZt%->~fix~gs6)<wa*><rWt7trs:tqrZsuY;xo><rWs:tqrZsuYrss*4v2r["
def mR(C CE:Af):Ab D->Aa D:=cA 5 (uY C CE)
def Z3o(C CE:Af):En->Res :=by walk_at"@tUv8Nt%s{rFwes3v8rA{5rUNt%sQr2xp=rmJ#s:xp=rmt]*rf!t!=twr=s|s]r(u>!xqs:xrvRv9rIrA;!s:xrvRv9rIrArsrRrfR)0t7trtrs:xs=szv9rIrA;$wd)0s:xs=szv9rIrArss/t6v2r[P"
def pD(C CE:Af):Ab D->Aa D:=cA 4 (Z3o C CE)
def kU(C CL:Af):En->Res :=by walk_at"@(rorMt^#rorW*v7sV0~/~g#rorR#s|0<xTwLRr]rJ~ ~O(t>]u8vO"
def iI(C CL:Af):Ab D->Aa D:=cA 3 (kU C CL)
def vC(C:Af):En->Res :=by walk_at"@#v8rM~wire~O~leg~Owa*xo)<rW(wX4r!"
def pF(C:Af):Ab D->Aa D:=cA 2 (vC C)
def yI(C CL:Af):En->Res :=by walk_at"@xl=urun(~01~OrQt9]4u(t^=urunusv*]HvO"
def oK(C CL:Af):Ab D->Aa D:=cA 1 (yI C CL)
def rJ(C CL:Af):En->Res :=by walk_at"@$xmhu(t^usv*HvO"
def eB(C CL:Af):Ab D->Aa D:=cA 1 (rJ C CL)
def hU(C CL:Af):En->Res :=by walk_at"@(rorM{6rF{7s3v8w%1rUsZKt^t7=rOs6tVr(rtw(hxt#=rOs6tVrJrtw(hto]*rf~named~O)t7trtr=twr=s6tVr(rtxuhxt~named~OrB#wV=twr=s6tVrJrtxuhto]rB3t<t<t<{8rfW"
def hG(C CL:Af):Ab D->Aa D:=cA 2 (hU C CL)
def jQ(C CL:Af):En->Res :=by walk_at"@#~give~rB#t&~number~[r&~stuck~rB&t&~number~~bit~~number~r4r&~leg~rB-t&~number~~bit~~bit~~number~xvr&~faults~rB1t&3r&~idle~rB1t&3r&~tells~rB!t&~number~~bit~er&~tells~rB&t&~number~~bit~~bit~r4r&~lean~rB1t&3r&wZ{9ra<r.vJvQ4*r|)slt^!t!rG{:(u4)rjtpu?uwsQr?w(vRJ:rtw(vRt]*rfY~bit~Ms{s9FN^t^!s9<rRsKWvGsKr["
def cF(C CL:Af):Ab D->Aa D:=cA 6 (jQ C CL)
def nV(C CL:Af):En->Res :=by walk_at"@#(~ ~Out*~~O)rQt^rb~new~g~new~Ot7trrtxwuCJ~new~OrtxwuCt]vQvPrb~named~gsQr?xxuCJrtxxuCt]vPsQr?xyr]J!rtxyr]t]*rfrb~give~g~give~Ot[vS<s/upDrb~stuck~grb~leg~gK~give~O$xzrZrOs|s]J0sz<s/upDrb~tells~g~tells~O$xzu3vQDrb<tEupHrrsKr[P"
def bU(C CL:Af):Ab D->Aa D:=cA 3 (nV C CL)
def uA(C CL CE CW CD:Af)(a:Af):En->Ab D->Res×Ab D :=by walk_at"@x{sQr?x|r]J!rtx|r]t]*rhwfvS~new~gx}x{sQr2y!rZwEJsmt?1~circuit~s:y!rZwEt]{;y#wf~ok~OHrhwgrSwKrhy$vS~lean~gx}smt?1~circuit~t?${<3sm~circuit~vMwhy#wgt?rCu=~rows~sm~circuit~9xE44why%wgrSwKrhy$t?{=t#y&3sm~circuit~90;t?t$y&3sm~circuit~90rswhy%wfrSrSrS"
def pX(C CL CE CW CD:Af):Af->D->Ab D->Aa (D×D):=E5 3 (uA C CL CE CW CD)
def rM(C CL CE CW CD:Af)(a:Af):En->Ab D->Res×Ab D :=by walk_at"@!t[*rh&t[*rht?sm~say~r?r2r3r4s_!-rtr2r3sm{>)tE{?r|0sl><Drh:r?rcuDuEt(r2rcr3x4uEt(x3rcr4uEsY*rh::t(uDuEt(uDuEtOuvrhr>3s9r((siv?4FsZr?rcr2rcr3rcr4uEu(K~none~u7rh~line~+~circuit~+~wire~+~not told~+~great~+s`sgr<s9sCwCxWrHrWHrhrSrSrSrSrSrSrS"
def kJ(C CL CE CW CD:Af):Af->D->Ab D->Aa (D×D):=E5 6 (rM C CL CE CW CD)
def vA(C:Af):En->Res :=by walk_at"@!t!tT(u1y(v;NtXy)Vs8u>!(u1y(v;t;Fy*V>s+v}t:Fy*Vv}sErRvGPr+-({AVs+{BV)s+)s+l)l{C_*tXy)Vs8u>-YYs+TV>s+lu){D_tWY{EVs+{F_v|s}rRPvGr["
def uS(C:Af):Ab D->Aa D:=cA 5 (vA C)
def Z7V(C CL CE CW CD:Af):En->Res :=
  λac=>((dC (gS (bJ 1 (qG (fSl (aD 0) cR (fP (kI 63))) (bO (aA (kI 0) aF)))))
  (dC (Z1n [] (sB1 nB (aA (fB1 bF (aA (aD 1) aF)) aF)) 2 (dC (gS (bJ 3 (aL (J8 C) [] (aA (aL (uS C) [] (aA (fIx (aD 1) (aD 2)) (aA (aD 2) aF))) aF))))
  (dC (gS (bJ 4 (aL (fS C) [] (aA (aD 3) aF))))
  (F3 5 (λ_=>Z0f C CD []) λa =>
  (dC (qR (gEq true (Z5U [a] 0 (kJ C CL CE CW CD) (aA (aD 5) (aA (aD 3) aF))) (aD 4)) (gS (aZ (fC (.bl false)))) (gS aX))
  (qR (Za9 (zZ (fB (Zae "list" (aD 4)))) (gEq true (Z5U [a] 0 (kJ C CL CE CW CD) (aA (aD 5) (aA (aD 3) aF))) (aD 4))) (gS (aZ (fC (.bl false)))) (gS aX)))))))
  (gS (aZ (fC (.bl true)))))) ac []).1
def ZaR(C CL CE CW CD:Af):Ab D->Aa D:=cA 6 (Z7V C CL CE CW CD)
end G
namespace PD
open PySem PySem.Spec PyProof.Rows L2
theorem FunD.k{P:Aj}{w:Ak}{K:Frag}{mg:Str->Aa Ad}{ad:Ah}{x ah:Str}{st:Stmt}{f:Af}{fd:FuncData}{N ps:Ab Str}{k n L:Nat}{g:En->Res}(F:FunD K x ah st f fd)(S:fL N ps (aS st))
  (b:∀{a:Ad}{A:Ai}{af:Ab Env}{s:Ac}{H:Hp}{E:XK},N.Nodup->Room k (A.deeper (envOfC ah (aS st) s.heap.objs.size f a))->QSs (yK CX0 P w K mg ad N ah (aS st) f a A af s H E).nox (cN st) g) (h:ps.length=n:=by rfl) (i:N.length=L:=by rfl) :
  jK P w K mg ad CX0 (k+1) f fd ps (spD K n (cA L g)):=F.ok S h i λ_ _ _ _ _ _ hr=>b S.nd hr
section
variable {X:Cx}{m1:Bool}{rs rs1:Ab Nat}{e:Ag}{es:Ab Ag}{f:En->Aa D}{fs:En->Aa (Ab D)}{ai p pos':Pos}{x:Str}
def Qc(c:bB X.prog X.w X.K X.mg X.base x dds k n F')(f:QA X m1 rs1 (e::es) fs)(j:Room k X.A:=by exact Room.mono (by assumption) (by first|decide|omega))(a:NArgs na fs:=by(repeat apply NArgs.cons);exact NArgs.nil)(i:na+dds.length=n:=by rfl)(h:Gl X x:=by rfl)
  (b:nDb x:=by decide) (he:sEa e es X.env:=by rfl) (hpl:bTa ai es X.env:=by rfl) :
  QE X true [] (.Call (.Name x p) (e::es) [] ai) (aL F' dds fs):=ZbI c j a i f h b he hpl
def Qn(rs:Ab Nat):QA X false rs [] aF:=aP
def Qv(i:Nat){x:Str}(hs:∀r∈[i],r∈rs:=by simp)(f:X.N[i]?=some x:=by rfl)(b:Vis X.env.scope x:=by first|exact Or.inl rfl|exact Or.inr (Or.inl rfl)|exact Or.inr (Or.inr rfl))(hd:nDb x:=by decide)(a:(x==("__classdict__" : Str))=false:=by decide) :
  QE X false rs (.Name x ai) (aD i):=(aC i f b hd a).more hs
def Qs(i:Nat)(he:QE X true [] e f)(b:X.N.Nodup:=by assumption)(hi:X.N[i]?=some x:=by rfl)(h:Loc X.env.scope x:=by first|exact .inl rfl|exact .inr rfl)(hs:swapsWith e (some (.Name x pos')) ai.line X.env=pure false:=by rfl)(a:X.fn x=true\/X.env.scope.names.lookup x=some .local:=by first|exact .inl rfl|exact .inr rfl|assumption) :
  QS X (.Assign [.Name x pos'] e ai) (bJ i f):=ZbE b hi h he hs a
def Qg(i:Nat)(b:X.N.Nodup:=by assumption)(hi:X.N[i]?=some x:=by rfl)(f:Loc X.env.scope x:=by first|exact .inl rfl|exact .inr rfl)(a:X.fn x=true\/X.env.scope.names.lookup x=some .local:=by first|exact .inl rfl|exact .inr rfl|assumption):QG X (.Name x ai) (gtN i):=Z9i b hi f a
end
def us0{Z:Ab Ad->Prop}(h:Z [])(us:Ab Ad)(a:us.length=0):Z us:=by rw[Qbk a];exact h
def usS{Z:Ab Ad->Prop}{n:Nat}(h:∀(a:Ad) (t:Ab Ad),t.length=n->Z (a::t))(us:Ab Ad)(b:us.length=n+1):Z us:=by
 cases us with
 |nil=>exact absurd b (by simp)
 |cons a t=>exact h a t (Nat.succ.inj b)
structure HB(J:Params->Frag)(P:Program)(w:World)(K:Frag)(mg:Str->Option Value)(base:Heap):Prop where
 k:K=J w.params
 x:HX P w K mg base
 b:K.In base
section
variable {J:Params->Frag}{P:Aj}{w:Ak}{K:Frag}{mg:Str->Aa Ad}{ad:Ah}{x:Str}{k n L:Nat}{g:En->Res}{G:Af->En->Ab D->Res×Ab D}{v:Ad}{C S:Af}
def HB.z(Y:HB J P w K mg ad)(h:nsIn (J w.params) mainGlobals x=some none):mg x=none:=by
 obtain⟨e,⟨_,X,G⟩,_⟩:=Y;rw[<- e]at h;exact PySem.W.mg_none_of X G h
def HB.val(Y:HB J P w K mg ad)(h:nsIn K mainGlobals x=some (some v)):mg x=some v:=by
 obtain⟨e,⟨_,X,G⟩,_⟩:=Y;exact mg_of X G h
theorem HB.c(Y:HB J P w K mg ad)(st:Stmt)(N:Ab Str)
  (b:∀{f:Af}{cdv:Ad}{A:Ai}{af:Ab Env}{s:Ac}{H:Hp}{E:XK},N.Nodup->Room k (A.deeper (envOfC x (aS st) s.heap.objs.size f cdv))->QSs (yK CX0 P w K mg ad N x (aS st) f cdv A af s H E).nox (cN st) g)
  (hd:∃f,HD (J w.params) x st f:=by exact⟨_,by apply PD.HD.mk<;>k_is⟩) (S:fL N (N.take n) (aS st):=by exact(Rn)) (i:(N.take n).length=n:=by rfl) (j:N.length=L:=by rfl)
  (a:HU x st (N.take n):=by intro _;repeat (first|exact PD.us0 rfl|refine PD.usS λ_=>?_)):bB P w K mg ad x [] (k+1) n (cA L g):=by
 obtain⟨f,h⟩:=hd;rw[<- Y.k]at h;exact h.c Y.x (λ_ F=>F.k S (λnd hr=>b nd hr) i j) a
theorem HB.e(Y:HB J P w K mg ad)(st:Stmt)(N:Ab Str)
  (b:∀{f:Af}{cdv:Ad}{A:Ai}{af:Ab Env}{s:Ac}{H:Hp}{E:XK},N.Nodup->Room k (A.deeper (envOfC x (aS st) s.heap.objs.size f cdv))->Q4 (cxE P w K mg ad N x (aS st) f cdv A af s H E) E (cN st) g)
  (hd:∃f,HD (J w.params) x st f:=by exact⟨_,by apply PD.HD.mk<;>k_is⟩) (S:fL N (N.take n) (aS st):=by exact(Rn)) (i:(N.take n).length=n:=by rfl) (j:N.length=L:=by rfl)
  (a:HU x st (N.take n):=by intro _;repeat (first|exact PD.us0 rfl|refine PD.usS λ_=>?_)):dE P w K mg ad x [] (k+1) n (cA L g):=by
 obtain⟨f,h⟩:=hd;rw[<- Y.k]at h;exact h.e Y.x (λ_ F=>F.okE S i j λ_ _ _ _ _ _ hr=>b S.nd hr) a
def HB.dk(Y:HB J P w K mg ad)(st:Stmt)(N:Ab Str)
  (i:∀(a:Af) {f:Af}{cdv:Ad}{A:Ai}{af:Ab Env}{s:Ac}{H:Hp}{E:XK},N.Nodup->Room k (A.deeper (envOfC x (aS st) s.heap.objs.size f cdv))->QSsg (yK CX0 P w K mg ad N x (aS st) f cdv A af s H E).nox [a] (cN st) (G a))
  (hd:∃f,HD (J w.params) x st f:=by exact⟨_,by apply PD.HD.mk<;>k_is⟩) (S:fL N (N.take (n+1)) (aS st):=by exact(Rn)) (j:(N.take (n+1)).length=n+1:=by rfl) (l:N.length=L:=by rfl)
  (b:HU x st (N.take (n+1)):=by intro _;repeat (first|exact PD.us0 rfl|refine PD.usS λ_=>?_)):C0 P w K mg ad x (k+1) n (E5 L G):=by
 obtain⟨f,h⟩:=hd;rw[<- Y.k]at h;exact h.g Y.x (λ_ F=>F.okG S j l λa _ _ _ _ _ _ hr=>i a S.nd hr) b
def HDd(K:Frag)(x:Str)(st:Stmt):Prop:=∃f T oc od kV doc pm an cd ct sl ocT odT nT slT,nsIn K mainGlobals x=some (some (.ref f))/\K.lookup f=some ⟨oc,od,.func (fnOf x x (eV st) (cN st) (aS st) (.ref T) kV doc pm an cd ct),sl⟩/\codeIn K cd x=true/\keepIn K (.ref f)=true/\K.lookup T=some ⟨ocT,odT,.seq #[.none] nT,slT⟩
def HDd.mk{st:Stmt}{f T:Af}{n kV b q cd ct i:Ad}{p an h:Aa Af}{o j:Ae (Aa Ad)}{r:Nat}(a:nsIn K mainGlobals x=some (some (.ref f)))(l:K.lookup f=some ⟨n,p,.func (fnOf x x (eV st) (cN st) (aS st) (.ref T) kV b q an cd ct),o⟩)
  (c:codeIn K cd x=true) (k:keepIn K (.ref f)=true) (d:K.lookup T=some ⟨i,h,.seq #[.none] r,j⟩):HDd K x st:=⟨f,T,n,p,kV,b,q,an,cd,ct,o,i,h,r,j,a,l,c,k,d⟩
theorem HB.d(Y:HB J P w K mg ad)(st:Stmt)(N:Ab Str)
  (u:∀{f:Af}{cdv:Ad}{A:Ai}{af:Ab Env}{s:Ac}{H:Hp}{E:XK},N.Nodup->Room k (A.deeper (envOfC x (aS st) s.heap.objs.size f cdv))->QSs (yK CX0 P w K mg ad N x (aS st) f cdv A af s H E).nox (cN st) g)
  (hd:HDd (J w.params) x st:=by apply PD.HDd.mk<;>k_is) (S:fL N (N.take n) (aS st):=by exact(Rn)) (i:(N.take n).length=n:=by rfl) (v:N.length=L:=by rfl)
  (p:∀ (T:Af) (j:Ad) (o:Aa Af) (m:Nat) (t:Ae (Aa Ad)) (r:Ad × Ad × Ad × Aa Af × Ad × Ad) (s:Ac),s.heap.get? T=some ⟨j,o,.seq #[.none] m,t⟩->(∀ us:Ab Ad,us.length=n->BindsTo s (fnOf x x (eV st) (cN st) (aS st) (.ref T) r.1 r.2.1 r.2.2.1 r.2.2.2.1 r.2.2.2.2.1 r.2.2.2.2.2) ⟨us,[]⟩ ((N.take n).zip us)) /\ ∀ us:Ab Ad,us.length=n - 1->BindsTo s (fnOf x x (eV st) (cN st) (aS st) (.ref T) r.1 r.2.1 r.2.2.1 r.2.2.2.1 r.2.2.2.2.1 r.2.2.2.2.2) ⟨us,[]⟩ ((N.take n).zip (us ++ [.none]))
   := by intro T _ _ _ _ _ _ d;constructor<;>repeat (first|exact PD.us0 (.of_defaults rfl d rfl rfl rfl)|refine PD.usS λ_=>?_)):bB P w K mg ad x [] (k+1) n (cA L g)/\bB P w K mg ad x [.non] (k+1) n (cA L g):=by
 obtain⟨f,T,j,o,kV,h,q,an,cd,ct,t,C,y,I,B,a,l,c,b,d⟩:=hd;rw[<- Y.k]at a l c b d;obtain⟨_,⟨_,X,G⟩,_⟩:=Y;have F:=FunD.k (wK (st:=st) l c b) S (λnd hr=>u nd hr) i v;have m:=mg_of X G a;exact⟨⟨⟨f,_,_,[],[],F,m,b,λs us ks hl=>by rw[QaN]at hl ⊢;exact(p T _ _ _ _ (kV,h,q,an,cd,ct) s (ks _ _ d)).1 us (hl.trans i),.nil,λH=>by simp only[Reps];exact⟨trivial,trivial⟩⟩⟩,
  ⟨⟨f,_,_,[.non],[.none],F,m,b,λs us ks hl=>(p T _ _ _ _ (kV,h,q,an,cd,ct) s (ks _ _ d)).2 us (by rw[Qaj,i]at hl;exact Nat.eq_sub_of_add_eq hl),.cons rfl .nil,λH=>by simp only[Reps];exact⟨.non,[],[],[],rfl,rfl,pB,rfl,rfl⟩⟩⟩⟩
def HCl(K:Frag)(x:Str)(C:Af)(st:Stmt)(q:Str):Prop:=nsIn K mainGlobals x=some (some (.ref C))/\(∃f oc od kV doc pm an cd ct sl,PySem.W.findIn K (.ref C) "__init__" = some (some (.ref f))/\K.lookup f=some ⟨oc,od,.func (fnOf "__init__" q (eV st) (cN st) (aS st) .none kV doc pm an cd ct),sl⟩/\codeIn K cd q=true/\keepIn K (.ref f)=true/\PySem.W.isFn K (.ref f)=true)/\Cls K C/\PySem.W.makesIn K C=true/\keepIn K (.ref C)=true
def HCl.mk{q:Str}{st:Stmt}{f:Af}{p kV o u cd ct:Ad}{t an:Aa Af}{r:Ae (Aa Ad)}(a:nsIn K mainGlobals x=some (some (.ref C)))(b:PySem.W.findIn K (.ref C) "__init__" = some (some (.ref f)))(l:K.lookup f=some ⟨p,t,.func (fnOf "__init__" q (eV st) (cN st) (aS st) .none kV o u an cd ct),r⟩)
  (c:codeIn K cd q=true) (d:keepIn K (.ref f)=true) (e:PySem.W.isFn K (.ref f)=true) (g:PySem.W.plainGet K C Str.empty=true) (h:PySem.W.hasDictIn K C=true) (i:PySem.W.plainOver K C=true) (j:PySem.W.findIn K (.ref C) "__setattr__" = some (some (.builtin "object.__setattr__"))) (m:PySem.W.makesIn K C=true) (n:keepIn K (.ref C)=true):HCl K x C st q:=⟨a,⟨f,p,t,kV,o,u,an,cd,ct,r,b,l,c,d,e⟩,⟨g,h,i,j⟩,m,n⟩
def HCl.cl{q:Str}{st:Stmt}(h:HCl K x C st q):Cls K C:=h.2.2.1
theorem HCl.m{q:Str}{st:Stmt}{ps:Ab Str}{F':Ab D->Aa D}(h:HCl K x C st q)(Y:HX P w K mg ad)
  (ok:∀f fd,FunD K "__init__" q st f fd->jK P w K mg ad CX0 k f fd ps (spI K C n F')) (j:∀(r:Ad×Ad×Ad×Aa Af×Ad×Ad) (us:Ab Ad),us.length=ps.length->bindArgs (fnOf "__init__" q (eV st) (cN st) (aS st) .none r.1 r.2.1 r.2.2.1 r.2.2.2.1 r.2.2.2.2.1 r.2.2.2.2.2) ⟨us,[]⟩=pure (ps.zip us):=by intro _;repeat (first|exact PD.us0 rfl|refine PD.usS λ_=>?_)):W0 P w K mg ad x C k n F':=by
 obtain⟨a,⟨f,p,u,kV,i,o,an,cd,ct,t,b,l,c,d,e⟩,z,m,q⟩:=h;obtain⟨_,X,G⟩:=Y;exact⟨⟨f,_,_,⟨m,b,e,q⟩,ok f _ (wK l c d),mg_of X G a,.all (j (kV,i,o,an,cd,ct))⟩⟩
def HMe(K:Frag)(x:Str)(C:Af)(st:Stmt)(q:Str):Prop:=∃f oc od kV doc pm an cd ct sl,PySem.W.findIn K (.ref C) x=some (some (.ref f))/\K.lookup f=some ⟨oc,od,.func (fnOf x q (eV st) (cN st) (aS st) .none kV doc pm an cd ct),sl⟩/\codeIn K cd q=true/\keepIn K (.ref f)=true/\PySem.W.isFn K (.ref f)=true
def HMe.mk{q:Str}{st:Stmt}{f:Af}{h kV a n cd ct:Ad}{i an:Aa Af}{j:Ae (Aa Ad)}(b:PySem.W.findIn K (.ref C) x=some (some (.ref f)))(l:K.lookup f=some ⟨h,i,.func (fnOf x q (eV st) (cN st) (aS st) .none kV a n an cd ct),j⟩)
  (c:codeIn K cd q=true) (d:keepIn K (.ref f)=true) (e:PySem.W.isFn K (.ref f)=true):HMe K x C st q:=⟨f,h,i,kV,a,n,an,cd,ct,j,b,l,c,d,e⟩
def HMe.m{q:Str}{st:Stmt}(h:HMe K x C st q)(c:Cls K C)(N:Ab Str)
  (o:∀(a:Af) {f:Af}{cdv:Ad}{A:Ai}{af:Ab Env}{s:Ac}{H:Hp}{E:XK},N.Nodup->Room k (A.deeper (envOfC q (aS st) s.heap.objs.size f cdv))->QSsxg (cxE P w K mg ad N q (aS st) f cdv A af s H E) E [a] (cN st) (G a))
  (S:fL N (N.take (n+1)) (aS st):=by exact(Rn)) (p:(N.take (n+1)).length=n+1:=by rfl) (t:N.length=L:=by rfl)
  (u:∀(r:Ad×Ad×Ad×Aa Af×Ad×Ad) (us:Ab Ad),us.length=(N.take (n+1)).length->bindArgs (fnOf x q (eV st) (cN st) (aS st) .none r.1 r.2.1 r.2.2.1 r.2.2.2.1 r.2.2.2.2.1 r.2.2.2.2.2) ⟨us,[]⟩=pure ((N.take (n+1)).zip us):=by intro _;repeat (first|exact PD.us0 rfl|refine PD.usS λ_=>?_)):Z8t P w K mg ad C x (k+1) n (E5 L G):=by
 obtain⟨f,y,F,kV,j,v,an,cd,ct,B,b,l,e,d,i⟩:=h;exact⟨⟨f,_,_,FunD.okGE (wK l e d) S p t λa _ _ _ _ _ _ hr=>o a S.nd hr,⟨b,i,d⟩,.all (u (kV,j,v,an,cd,ct)),c⟩⟩
theorem HB.law(X:K.In ad)(G:ad.Ns mainGlobals mg){st:Stmt}(hd:∃f,HD K "law" st f)(j:mg "law" = some (.ref f))
  (i:∀(r:Ad×Ad×Ad×Aa Af×Ad×Ad) (u:Ad),bindArgs (fnOf "law" "law" (eV st) (cN st) (aS st) .none r.1 r.2.1 r.2.2.1 r.2.2.2.1 r.2.2.2.2.1 r.2.2.2.2.2) ⟨[u],[]⟩=pure [(y,u)]) (R:(Ab D->Aa D)->Prop) (r:R F')
  (ok:∀fd,FunD K "law" "law" st f fd->∀ad:Ah,K.In ad->ad.Ns mainGlobals mg->jK l w K mg ad CX0 k f fd [y] (spD K 1 F')) :
  ∃(fd:FuncData) (m:Ab D->Aa D),(∀(s:Ac) (u:Ad),BindsTo s fd ⟨[u],[]⟩ [(y,u)])/\R m/\∀ad:Ah,K.In ad->ad.Ns mainGlobals mg->jK l w K mg ad CX0 k f fd [y] (spD K 1 m):=by
 obtain⟨f',a,⟨o,q,kV,b,n,an,cd,ct,p,l,c⟩,h⟩:=hd;have e:=j.symm.trans (mg_of X G a);cases e;exact⟨_,F',λs u=>.of_eq (i (kV,b,n,an,cd,ct) u),r,ok _ (wK l c h)⟩
def HXc(K:Frag)(x:Str)(C S:Af):Prop:=nsIn K mainGlobals x=some (some (.ref C))/\(∀ad:Ah,K.In ad->ExC ad C)/\PySem.W.ExcK K C/\PySem.W.exmOne K (.ref C) (.ref S)=some true/\PySem.W.kitOne K (.ref C) (.type "ValueError")=some true
def HXs(K:Frag)(S:Af):Prop:=(∃c1 c2 d1 d2 nm1 bs1 mro1 NS q1 hd1 sn1 sub1 ab1 col1 del1 sl1 sl2 es1 n1,K.lookup S=some ⟨c2,d2,.cls ⟨nm1,bs1,mro1,NS,q1,hd1,sn1,sub1,ab1,col1,del1⟩,sl2⟩/\K.lookup NS=some ⟨c1,d1,.dict es1 n1,sl1⟩/\es1.toList.all (λe=>match e.key with | .str _ _=>true|_=>false)=true/\nsIn K NS "__init__" = some none)/\(∃cd,PySem.W.clsIn K S=some cd)/\PySem.W.typeIn K (.ref S)=some (.type "type")/\PySem.W.subIn K (.ref S) (.type "BaseException")=some true /\
 PySem.W.specialIn K (.builtin "object.__class__") "__get__" = some (some (.builtin "getset_descriptor.__get__"))/\PySem.W.takesIn K (.builtin "object.__class__")=some true
def HXs.mk
  (a:K.lookup S=some ⟨c2,d2,.cls ⟨nm1,bs1,mro1,NS,q1,hd1,sn1,sub1,ab1,col1,del1⟩,sl2⟩) (b:K.lookup NS=some ⟨c1,d1,.dict es1 n1,sl1⟩) (i:nsIn K NS "__init__" = some none) (d:PySem.W.clsIn K S=some cd) (e:PySem.W.typeIn K (.ref S)=some (.type "type")) (g:PySem.W.subIn K (.ref S) (.type "BaseException")=some true)
  (h:PySem.W.specialIn K (.builtin "object.__class__") "__get__" = some (some (.builtin "getset_descriptor.__get__"))) (j:PySem.W.takesIn K (.builtin "object.__class__")=some true) (c:es1.toList.all (λe=>match e.key with | .str _ _=>true|_=>false)=true):HXs K S :=
 ⟨⟨c1,c2,d1,d2,nm1,bs1,mro1,NS,q1,hd1,sn1,sub1,ab1,col1,del1,sl1,sl2,es1,n1,a,b,c,i⟩,⟨cd,d⟩,e,g,h,j⟩
def HXc.mk(s:HXs K S)(a:nsIn K mainGlobals x=some (some (.ref C)))
  (l:K.lookup C=some (excClassObj nm q C N bs [.ref S,.type "ValueError",.type "Exception",.type "BaseException",.type "object"] hd sn sub ab col dd k0 k1 k2 k3 k5 "ValueError.__new__")) (i:K.lookup N=some ⟨c,d,.dict es n,sl⟩) (w:nsIn K N "__init__" = some none)
  (ga:PySem.W.findIn K (.ref C) "__getattribute__" = some (some (.builtin "BaseException.__getattribute__"))) (B:PySem.W.findIn K (.ref C) "__getattr__" = some none) (cl:PySem.W.findIn K (.ref C) "__class__" = some (some (.builtin "object.__class__"))) (b:PySem.W.mroIn K C (.type "object")=some true) (E:PySem.W.mroIn K C (.type "BaseException")=some true)
  (A:PySem.W.subIn K (.ref C) (.type "ValueError")=some true) (ks:PySem.W.subIn K (.ref C) (.ref S)=some true) (r:es.toList.all (λe=>match e.key with | .str _ _=>true|_=>false)=true):HXc K x C S:=by
 obtain⟨⟨c1,c2,P,X,H,M,y,R,U,L,I,p,G,f,u,F,O,J,Q,t,v,o,i1⟩,⟨cd,d⟩,e,g,h,j⟩:=s;exact⟨a,Zcf l i r w t v o i1,⟨ga,B,cl,h,j,b,E,Zch l⟩,Zah d e ks g,Za0 (T := "ValueError") (by decide +kernel) A⟩
def kit_o(hc:PySem.W.clsIn K CC=some cd)(b:PySem.W.typeIn K (.ref CC)=some (.type "type"))(hs:PySem.W.subIn K (.ref C) (.ref CC)=some false)(a:(C==CC)=false):PySem.W.kitOne K (.ref C) (.ref CC)=some false:=Z9Z hc b hs a
end
end PD
set_option maxHeartbeats 0
namespace G
open PySem PySem.Spec PyProof.Rows L2 PD
def Ls(l:Ab Nat):Prop:=(∀c∈l,c<128)/\l.length<=400
def dig(c:Nat):Bool:=decide (48<=c/\c<=57)
def okN(l:Ab Nat):Bool:=!decide (l=[])&&decide (l.length<=9) && !(decide (l.head?=some 48) && !decide (l=[48]))&&l.all dig
def fQ(l:Ab Nat):(mkS l).length=l.length:=by simp[mkS,Str.length]
def nJ(l a:Ab Nat):(mkS l==mkS a)=decide (l=a):=by
 by_cases h:l=a
 .subst h;simp
 .rw[Rh h];cases b:mkS l==mkS a with
  |false=>rfl
  |true =>
   have:=congrArg (λs:Str=>s.cps.toList) (eq_of_beq b);simp only[cP]at this;exact absurd this h
def Z3Q:Str.ofString "" = mkS []:=by decide +kernel
def oY:Str.ofString "0" = mkS [48]:=by decide +kernel
def Zdr:(Str.ofString "0123456789").cps.toList=[48,49,50,51,52,53,54,55,56,57]:=by decide +kernel
def Z7O(c:Nat):inF (.str ⟨#[c]⟩) (.str "0123456789")=some (dig c):=by
 show some (!(Builtin.Str.occurrences (Str.ofString "0123456789") ⟨#[c]⟩ 0 (Str.ofString "0123456789").length 1).isEmpty)=_;rw[PySem.StrLaws.found_one,Zdr];congr 1;unfold dig;rw[QaU];simp;omega
theorem vH(p:α->Bool):∀xs:Ab α,kY (xs.map λx=>D.bl (p x))=some (xs.map p)
 |[]=>rfl
 |x::xs=>by simp only[Qan,kY,vH p xs,QaK]
def Z4K(h:Ls l):(mkS l).cps.all (· < 128)=true:=by
 rw[Array.all_eq_true_iff_forall_mem];intro x a;have:x∈(mkS l).cps.toList:=by simpa using a
 rw[cP]at this;exact Ri (h.1 x this)
def Z4j(h:Ls l):bF [.str (mkS l)]=some (.int (l.length:Int)):=by
 show(if (mkS l).length<=1000 then some (D.int (mkS l).length) else none)=_;have:=h.2;rw[fQ,if_pos (by omega)]
def Z4x(h:Ls (c::r)){ac:En}{fa:En->Aa D}(e:fa ac=some (.str (mkS (c::r)))):fIx fa (fC (.int 0)) ac=some (.str (mkS [c])):=by
 have:=h.2;rw[jH,e,gM];show(if (mkS (c::r)).length<=1000 then(atI (mkS (c::r)).cps.toList 0).map λc=>D.str ⟨#[c]⟩ else none)=_;rw[fQ,if_pos (by omega),cP,nP];rfl
def wE(h:Ls l):iV C [.str (mkS l)]=some (.bl (okN l)):=by
 have k1:cX [] (oQ (aD 0)) fTT (dH (fIn (aD 0) (fC (.str "0123456789")))) [oF (.str (mkS l))]=some (.lst (l.map λc=>D.bl (dig c))):=by
  refine jS (λ(c:Nat)=>.str ⟨#[c]⟩) (λc=>.bl (dig c)) (xs:=l) ?_ (by have:=h.2;omega) (λx a=>?_)
  .rw[Z4C];simp only[Z87,List.getElem?_cons_zero,Option.join_some,QaK,Z4K h,Rk,qM,cP]
  .rw[iT,U8];simp only[Z87,List.getElem?_cons_zero,Option.join_some,QaK,gM];rw[Z7O];rfl
 have k3:Z3D [.lst (l.map λc=>D.bl (dig c))]=some (.bl (l.all dig)):=by
  show(kY _).map _=_;rw[vH];simp[List.all_map]
 have f1:=Z4j h;have q:eqN 8 (.str (mkS l)) (.str "")=some (decide (l=[])):=by rw[eN,Z3Q,nJ]
 refine qF ?_;show Wp (rO C [oF (.str (mkS l))]) _;unfold rO;by_cases b:l=[]
 .subst b;exact gX (by rw[show fOr (fEq (aD 0) (fC (.str ""))) (fBI (λi j=>decide (j<i)) (fB1 bF (aA (aD 0) aF)) (fC (.int 9))) [oF (.str (mkS []))]=some true from by rfl]) rfl
 .have f:fEq (aD 0) (fC (.str "")) [oF (.str (mkS l))]=some false:=by
   show eqN 8 (.str (mkS l)) (.str "")=_;rw[q,Rh b]
  have n:fBI (λi j=>decide (j<i)) (fB1 bF (aA (aD 0) aF)) (fC (.int 9)) [oF (.str (mkS l))]=some (decide ((9:Int)<(l.length:Int))):=by
   rw[lF,cU (xs:=[.str (mkS l)]) rfl f1,gM]
  by_cases p:(9:Int)<(l.length:Int)
  .refine gX (by rw[qD,f,n,Ri p]) ?_;have:okN l=false:=by unfold okN;rw[Rh (show ¬l.length<=9 by omega)];simp
   rw[this];rfl
  .refine wNo (by rw[qD,f,n,Rh p]) ?_;obtain⟨c,r,rfl⟩:∃c r,l=c::r:=by cases l with
    |nil=>exact absurd rfl b
    |cons c r=>exact⟨c,r,rfl⟩
   have u:fEq (fIx (aD 0) (fC (.int 0))) (fC (.str "0")) [oF (.str (mkS (c::r)))]=some (decide (c=48)):=by
    rw[iW,Z4x h rfl,gM];show eqN 8 (.str (mkS [c])) (.str "0")=_;rw[eN,oY,nJ];simp
   have t:fEq (aD 0) (fC (.str "0")) [oF (.str (mkS (c::r)))]=some (decide (c::r=[48])):=by
    show eqN 8 (.str (mkS (c::r))) (.str "0")=_;rw[eN,oY,nJ]
   have o:fV (fEq (fIx (aD 0) (fC (.int 0))) (fC (.str "0"))) (cH (fEq (aD 0) (fC (.str "0")))) [oF (.str (mkS (c::r)))]=some (decide (c=48) && !decide (c::r=[48])):=by
    rw[pN,u,gC,t];by_cases hc:c=48<;>simp[hc]
   have ok:okN (c::r)=(!(decide (c=48) && !decide (c::r=[48]))&&(c::r).all dig):=by
    unfold okN;rw[Rh b,Ri (show(c::r).length<=9 by omega)];simp
   cases a:(decide (c=48) && !decide (c::r=[48])) with
   |true =>
    refine gX (by rw[o,a]) ?_;rw[ok,a];rfl
   |false =>
    refine wNo (by rw[o,a]) ?_;refine Z2y (d:=.bl ((c::r).all dig)) ?_ (by rw[ok,a];rfl);exact cU (xs:=[.lst ((c::r).map λc=>D.bl (dig c))]) (aM k1 rfl) k3
def uQ(h:okN l=true):PySem.NumText.AllDigits l/\l≠[]/\l.length<=9:=by
 unfold okN at h;simp only[Qak,Bool.not_eq_true',Rm,Rj]at h;obtain⟨⟨⟨h1,h2⟩,_⟩,h3⟩:=h;exact⟨λc hc=>by have:=Qaz.mp h3 c hc;simpa[dig]using this,h1,h2⟩
def Z4l(h:okN l=true):uJ [.str (mkS l)]=some (.int ((PySem.NumText.digitsVal l:Nat):Int)):=by
 obtain⟨h1,h2,h3⟩:=uQ h;show(if (mkS l).length<=640 then(PySem.intText? (mkS l)).map D.int else none)=_;rw[fQ,if_pos (by omega),PySem.intText_digits (by rw[cP];exact h1) (by rw[cP];exact h2) (by rw[fQ];omega),cP];rfl
def oU{α:Type}{p:α->Bool}{l:Ab α}{i:Nat}{c:α}(h:l[i]?=some c)(h1:(l.take i).all p=true)(h2:p c=true):(l.take (i+1)).all p=true:=by
 rw[List.take_succ,h,List.all_append,h1];simp[h2]
def dvI(l:Ab Nat):Int:=((PySem.NumText.digitsVal l:Nat):Int)
def okB(b:Int)(l:Ab Nat):Bool:=okN l&&decide (dvI l<b)
def SS(l:Ab Nat):D:=.str (mkS l)
def lI{α:Type}{p:α->Bool}{l:Ab α}{i:Nat}{c:α}(h:l[i]?=some c)(h2:p c=false):l.all p=false:=by
 rw[<- Bool.not_eq_true];intro z;have:=Qaz.mp z c (QaE h);rw[h2]at this;cases this
abbrev tI(ws:Ab (Ab Nat))(b:Int)(i:Nat)(l:Ab Nat):En:=[oF (.lst (ws.map SS)),oF (.int b),oT (LI ((ws.take i).map dvI)),oF (SS l),oT (.int (dvI l))]
abbrev wW(ws:Ab (Ab Nat))(b:Int)(i:Nat)(l:Ab Nat)(y:Aa (Bool×D)):En:=[oF (.lst (ws.map SS)),oF (.int b),oT (LI ((ws.take i).map dvI)),oF (SS l),y]
def jO{C CE:Af}{ws:Ab (Ab Nat)}{b:Int}(h:∀l∈ws,Ls l)(A:ws.length<=500) :
  bX C CE [.lst (ws.map SS),.int b]=some (if ws.all (okB b)=true then LI (ws.map dvI) else .exc CE):=by
 refine qF ?_;show Wp (kR C CE [oF (.lst (ws.map SS)),oF (.int b),none,none,none]) _;unfold kR;refine gW (d:=.lst []) rfl ?_;show aJ _ _ [oF (.lst (ws.map SS)),oF (.int b),oT (.lst []),none,none]=_;refine Z1g (ds:=ws.map SS) rfl (λi ac=>∃x y,ac=[oF (.lst (ws.map SS)),oF (.int b),oT (LI ((ws.take i).map dvI)),x,y]/\(ws.take i).all (okB b)=true) ⟨none,none,rfl,rfl⟩ ?_ ?_
 .rintro i d ac hd ⟨x,y,rfl,ha⟩;obtain⟨l,hw,rfl⟩:=jV hd;have v:=h l (QaE hw);refine⟨_,rfl,?_⟩;have q:=wE (C:=C) v;have n:∀y,cH (fB (aL (iV C) [] (aA (aD 3) aF))) (wW ws b i l y)=some (!okN l):=λy=>by
   rw[gC,tP,aQ (xs:=[SS l]) rfl q];rfl
  cases a:okN l with
  |false =>
   right;left;have o:ws.all (okB b)=false:=lI hw (by unfold okB;rw[a];rfl);refine⟨.exc CE,?_,by rw[o];rfl⟩;show aJ _ _ (wW ws b i l y)=_;unfold aJ rIf;rw[n,a];rfl
  |true =>
   have p:fB1 uJ (aA (aD 3) aF) (wW ws b i l y)=some (.int (dvI l)):=cU (xs:=[SS l]) rfl (Z4l a);have t:fBI (λi j=>decide (j<=i)) (aD 4) (aD 1) (tI ws b i l)=some (decide (b<=dvI l)):=rfl;by_cases r:b<=dvI l
   .right;left;have o:ws.all (okB b)=false:=lI hw (by unfold okB;rw[a,Rh (by omega)];rfl);refine⟨.exc CE,?_,by rw[o];rfl⟩;show aJ _ _ (wW ws b i l y)=_;refine sNo (by rw[n,a];rfl) ?_;refine Z1f p ?_;show aJ _ _ (tI ws b i l)=_;unfold aJ rIf;rw[t,Ri r];rfl
   .left;have w:okB b l=true:=by unfold okB;rw[a,Ri (by omega)];rfl
    refine⟨[oF (.lst (ws.map SS)),oF (.int b),oT (LI ((ws.take (i+1)).map dvI)),oF (SS l),oT (.int (dvI l))],.inl ?_,_,_,rfl,oU hw ha w⟩;show aJ _ _ (wW ws b i l y)=_;refine sNo (by rw[n,a];rfl) ?_;refine Z1f p ?_;show aJ _ _ (tI ws b i l)=_;refine sNo (by rw[t,Rh r]) ?_;have f:(((ws.take i).map dvI).map D.int).length<=1000:=by rw[Qad,Qad,QaV];omega
    have u:kD 2 (bD (aD 4)) (tI ws b i l)=.next [oF (.lst (ws.map SS)),oF (.int b),oT (.lst (((ws.take i).map dvI).map D.int++[.int (dvI l)])),oF (SS l),oT (.int (dvI l))]:=by
     unfold kD;rw[show bD (aD 4) (tI ws b i l)=some (.int (dvI l)) from rfl]
     show(if (((ws.take i).map dvI).map D.int).length<=1000 then _ else _)=_;rw[if_pos f];rfl
    show noX (kD 2 (bD (aD 4)) (tI ws b i l))=_;rw[u];show Res.next _=_;rw[List.take_succ,hw];simp[LI]
 .rintro env' ⟨x,y,rfl,ha⟩;rw[Qad,Qa0]at ha ⊢;rw[ha];rfl
theorem jL(c:Nat):∀(l:Ab Nat),(dD c l).length<=l.length+1/\∀w∈dD c l,w.length<=l.length/\∀x∈w,x∈l
 |[]=>⟨by simp[dD],λw hw=>by rw[Qaq.mp (show w∈[[]] from hw)];exact⟨Qap _,λx hx=>by cases hx⟩⟩
 |x::xs=>by
  obtain⟨h1,h2⟩:=jL c xs;unfold dD;split
  .refine⟨by simp only[Qai];omega,λw hw=>?_⟩;rcases Qab.mp hw with z|z
   .subst z;exact⟨by simp,λx hx=>by cases hx⟩
   .obtain⟨a,b⟩:=h2 w z;exact⟨by simp only[Qai];omega,λy hy=>Qaa _ (b y hy)⟩
  .obtain⟨f,t,e⟩:=jM c xs;rw[e]at h1 h2 ⊢;refine⟨by simp only[Qai]at *;omega,λw hw=>?_⟩;rcases Qab.mp hw with z|z
   .subst z;obtain⟨a,b⟩:=h2 f Qag;refine⟨by simp only[Qai];omega,λy hy=>?_⟩;rcases Qab.mp hy with z|z
    .rw[z];exact Qag
    .exact Qaa _ (b y z)
   .obtain⟨a,b⟩:=h2 w (Qaa _ z);exact⟨by simp only[Qai];omega,λy hy=>Qaa _ (b y hy)⟩
def Wds(l:Ab Nat):Ab (Ab Nat):=dD 32 l
def Z0X(h:Ls l):∀w∈Wds l,Ls w:=λw hw=>by
 obtain⟨a,b⟩:=(jL 32 l).2 w hw;exact⟨λc hc=>h.1 c (b c hc),by have:=h.2;omega⟩
def qL(h:Ls l){ac:En}{fa:En->Aa D}(b:fa ac=some (SS l)):pM fa (kS " ") ac=some (.lst ((Wds l).map SS)):=by
 have e:nQ (mkS l) (Str.ofString " ")=(Wds l).map mkS:=by
  rw[N8];have:=Z4Y (mkS l) 32 (by
   rw[Array.all_eq_true_iff_forall_mem];intro x f;have a:x∈(mkS l).cps.toList:=by simpa using f
   rw[cP]at a;exact Ri (by have:=h.1 x a;omega)) (by decide)
  rw[cP]at this;exact this
 have i:=(jL 32 l).1;have h2:=h.2;unfold pM;rw[b];show(if ((Str.ofString " ").length==0)=false/\(mkS l).length<=5000/\(nQ (mkS l) (Str.ofString " ")).length<=1000 then some (D.lst ((nQ (mkS l) (Str.ofString " ")).map .str)) else none)=_;rw[e,if_pos ⟨by decide +kernel,by rw[fQ];omega,by rw[Qad];show(dD 32 l).length<=1000;omega⟩,Qbc];rfl
def mX(ws:Ab (Ab Nat)):flats (ws.map SS)=true:=tE λd hd=>by
 obtain⟨i,_,rfl⟩:=Qa1.mp hd;rfl
def iB(a:fa ac=some (.lst ((w::ws).map SS))):fSl fa (fP (kI 1)) cR ac=some (.lst (ws.map SS)):=by
 unfold fSl;rw[a];show(if flats ((w::ws).map SS)=true then some (D.lst (PD.cutD ((w::ws).map SS) (some 1) none)) else none)=_;rw[if_pos (mX _),Qan,Zeh]
def iL(a:fa ac=some (.lst ((w::ws).map SS))):fIx fa (fC (.int 0)) ac=some (SS w):=by
 rw[jH,a,gM,Qan];exact nP _ _
def uT{ws:Ab (Ab Nat)}{ac:En}{fa:En->Aa D}(a:fa ac=some (.lst (ws.map SS))):fB1 bF (aA fa aF) ac=some (.int (ws.length:Int)):=by
 rw[cU (xs:=[.lst (ws.map SS)]) (aM a rfl) (show bF [.lst (ws.map SS)]=some (.int (ws.length:Int)) by simp only[bF,Qad])]
def eqS(hs:s=mkS k)(a:fa ac=some (SS w)):fEq fa (fC (.str s)) ac=some (decide (w=k)):=by
 rw[iW,a,gM];show eqN 8 (.str (mkS w)) (.str s)=_;rw[hs,eN,nJ]
def kIns:Ab Nat:=[105,110,115]
def kOuts:Ab Nat:=[111,117,116,115]
def uW:Ab Nat:=[102,105,120]
def K4:Ab Nat:=[110,111,116]
def Z3f:Ab Nat:=[97,110,100]
def kOr:Ab Nat:=[111,114]
def Z3e:Ab Nat:=[120,111,114]
def ZaJ:Str.ofString "ins" = mkS kIns:=by decide +kernel
def Z6H:Str.ofString "outs" = mkS kOuts:=by decide +kernel
def Z3P:Str.ofString "fix" = mkS uW:=by decide +kernel
def Z6J:Str.ofString "not" = mkS K4:=by decide +kernel
def ZaK:Str.ofString "and" = mkS Z3f:=by decide +kernel
def ZcP:Str.ofString "or" = mkS kOr:=by decide +kernel
def ZaG:Str.ofString "xor" = mkS Z3e:=by decide +kernel
def Z1M(l:Ab Nat):Aa Int:=match Wds l with
 |[w,v]=>if (decide (w=kIns)&&okB 9 v)=true then some (dvI v) else none
 |_=>none
theorem Z1l{C CE:Af}{l:Ab Nat}(h:Ls l):iR C CE [SS l]=some (match Z1M l with|some n=>.int n|none=>.exc CE):=by
 have hw:=Z0X h;have hn:=(jL 32 l).1;have h2:=h.2;refine qF ?_;show Wp (uZ C CE [oF (SS l),none]) _;unfold uZ;refine gW (qL h rfl) ?_;show Wp (aJ _ _ [oF (SS l),oT (.lst ((Wds l).map SS))]) _;unfold Z1M;obtain⟨w,ws,e⟩:=jM 32 l;have e':Wds l=w::ws:=e;have hlen:(w::ws).length<=401:=by rw[<- e];omega
 rw[e']at hw ⊢;have e1:=eqS (w:=w) ZaJ (iL (w:=w) (ws:=ws) (fa:=aD 1) (ac:=[oF (SS l),oT (.lst ((w::ws).map SS))]) rfl);have e2:=uT (ws:=w::ws) (fa:=aD 1) (ac:=[oF (SS l),oT (.lst ((w::ws).map SS))]) rfl;have e3:fOr (cH (fEq (fIx (aD 1) (fC (.int 0))) (fC (.str "ins")))) (cH (fEq (fB1 bF (aA (aD 1) aF)) (fC (.int 2)))) [oF (SS l),oT (.lst ((w::ws).map SS))]=some (!(decide (w=kIns)&&decide (((w::ws).length:Int)=2))):=by
  rw[qD,gC,e1];by_cases hk:w=kIns
  .rw[Ri hk];simp only[QaK,Bool.not_true];rw[gC,iW,e2,gM];dsimp only;rw[jI];simp
  .rw[Rh hk];rfl
 by_cases hc:(decide (w=kIns)&&decide (((w::ws).length:Int)=2))=true
 .rw[Qak,Rj,Rj]at hc;obtain⟨v,rfl⟩:∃v,ws=[v]:=by
   match ws,hc.2 with
   |[v],_=>exact⟨v,rfl⟩
   |[],z=>simp at z
   |_::_::_,z=>simp at z;omega
  refine wNo (by rw[e3,Ri hc.1];simp) ?_;have nb:=jO (C:=C) (CE:=CE) (ws:=[v]) (b:=9) (λl hl=>hw l (Qaa _ hl)) (by simp);have cl:aL (bX C CE) [] (aA (fSl (aD 1) (fP (fC (.int 1))) cR) (aA (fI0 (λi j=>.int (i+j)) (fC (.int 8)) (fC (.int 1))) aF)) [oF (SS l),oT (.lst ([w,v].map SS))]=some (if [v].all (okB 9)=true then LI ([v].map dvI) else .exc CE) :=
   aQ (xs:=[.lst ([v].map SS),.int 9]) (aM (iB (w:=w) rfl) rfl) nb
  dsimp only;rw[Ri hc.1];cases hk:okB 9 v with
  |true =>
   have ha:[v].all (okB 9)=true:=by simp[hk]
   rw[ha,if_pos rfl]at cl;show rOr _ _ _ _=_;rw[iD cl (λC e=>by cases e)];show noX (aZ _ _)=_;have fx:=eJ cl (λC e=>by cases e);have:bD (fIx (fNX (aL (bX C CE) [] (aA (fSl (aD 1) (fP (fC (.int 1))) cR) (aA (fI0 (λi j=>.int (i+j)) (fC (.int 8)) (fC (.int 1))) aF)))) (fC (.int 0))) [oF (SS l),oT (.lst ([w,v].map SS))]=some (.int (dvI v)):=by
    rw[lR,jH,fx,gM];rfl
   unfold aZ;rw[this];rfl
  |false =>
   have ha:[v].all (okB 9)=false:=by simp[hk]
   rw[ha,if_neg (by decide)]at cl;show rOr _ _ _ _=_;rw[gF cl rfl];rfl
 .refine gX (by rw[e3,Bool.not_eq_true _ |>.mp hc];rfl) ?_;show Res.ret (.exc CE)=_
  match ws with
  |[]=>rfl
  |[v] =>
   have:w≠kIns:=λz=>hc (by simp[z]);simp[this]
  |_::_::_=>rfl
def G7(n:Int)(l:Ab Nat):Bool:=match Wds l with
 |w::ws=>decide (w=kOuts)&&(decide (1<=ws.length)&&decide (ws.length<=16))&&ws.all (okB n)
 |[]=>false
def Z4{C CE:Af}{l:Ab Nat}{n:Int}(h:Ls l):∃d,kG C CE [SS l,.int n]=some d/\(G7 n l=true->d=LI (((Wds l).drop 1).map dvI))/\(G7 n l=false->d=.exc CE):=by
 have hw:=Z0X h;have A:=(jL 32 l).1;have h2:=h.2;refine E4 ?_;show Wp (rH C CE [oF (SS l),oF (.int n),none]) _;unfold rH;refine gW (qL h rfl) ?_;show Wp (aJ _ _ [oF (SS l),oF (.int n),oT (.lst ((Wds l).map SS))]) _;unfold G7;obtain⟨w,ws,e⟩:=jM 32 l;have u:Wds l=w::ws:=e;have o:(w::ws).length<=401:=by rw[<- e];omega
 rw[u]at hw ⊢;dsimp only;have q:=eqS (w:=w) Z6H (iL (w:=w) (ws:=ws) (fa:=aD 2) (ac:=[oF (SS l),oF (.int n),oT (.lst ((w::ws).map SS))]) rfl);have r:=uT (ws:=w::ws) (fa:=aD 2) (ac:=[oF (SS l),oF (.int n),oT (.lst ((w::ws).map SS))]) rfl;by_cases a:w=kOuts
 .refine wNo (by rw[gC,q,Ri a];rfl) ?_;have t:fOr (fBI (λi j=>decide (i<j)) (fB1 bF (aA (aD 2) aF)) (fC (.int 2))) (fBI (λi j=>decide (j<i)) (fI0 (λi j=>.int (i-j)) (fB1 bF (aA (aD 2) aF)) (fC (.int 1))) (fC (.int 16))) [oF (SS l),oF (.int n),oT (.lst ((w::ws).map SS))]=some (!(decide (1<=ws.length)&&decide (ws.length<=16))):=by
   have v:fBI (λi j=>decide (i<j)) (fB1 bF (aA (aD 2) aF)) (fC (.int 2)) [oF (SS l),oF (.int n),oT (.lst ((w::ws).map SS))]=some (decide (((w::ws).length:Int)<2)):=by rw[lF,r,gM]
   have x:fBI (λi j=>decide (j<i)) (fI0 (λi j=>.int (i-j)) (fB1 bF (aA (aD 2) aF)) (fC (.int 1))) (fC (.int 16)) [oF (SS l),oF (.int n),oT (.lst ((w::ws).map SS))]=some (decide ((16:Int)<((w::ws).length:Int)-1)):=by rw[lF,Z0z,r,gM,gM]
   rw[qD,v,x];by_cases f:1<=ws.length
   .rw[Ri f,Rh (show ¬(((w::ws).length:Int)<2) by simp only[Qai];omega)];dsimp only;congr 1;rw[QaU];simp only[Qai,Rj,Bool.true_and,Bool.not_eq_true',Rm];omega
   .rw[Rh f,Ri (show(((w::ws).length:Int)<2) by simp only[Qai];omega)];rfl
  cases f:(decide (1<=ws.length)&&decide (ws.length<=16)) with
  |false =>
   refine gX (by rw[t,f];rfl) ?_;refine⟨.exc CE,rfl,λz=>?_,λ_=>rfl⟩;rw[Ri a]at z;cases z
  |true =>
   refine wNo (by rw[t,f];rfl) ?_;have y:=jO (C:=C) (CE:=CE) (ws:=ws) (b:=n) (λl hl=>hw l (Qaa _ hl)) (by simp only[Qai]at o;omega);have cl:aL (bX C CE) [] (aA (fSl (aD 2) (fP (fC (.int 1))) cR) (aA (aD 1) aF)) [oF (SS l),oF (.int n),oT (.lst ((w::ws).map SS))]=some (if ws.all (okB n)=true then LI (ws.map dvI) else .exc CE) :=
    aQ (xs:=[.lst (ws.map SS),.int n]) (aM (iB (w:=w) rfl) rfl) y
   cases p:ws.all (okB n) with
   |true =>
    rw[p,if_pos rfl]at cl;show Rt _ (rOr _ _ _ _);rw[iD cl (λC e=>by cases e)];refine⟨LI (ws.map dvI),?_,λ_=>rfl,λz=>?_⟩
    .show noX (aZ _ _)=_;unfold aZ;rw[eJ cl (λC e=>by cases e)];rfl
    .rw[Ri a]at z;cases z
   |false =>
    rw[p,if_neg (by decide)]at cl;show Rt _ (rOr _ _ _ _);rw[gF cl rfl];refine⟨.exc CE,rfl,λz=>?_,λ_=>rfl⟩;rw[Bool.and_false]at z;cases z
 .refine gX (by rw[gC,q,Rh a];rfl) ?_;refine⟨.exc CE,rfl,λz=>?_,λ_=>rfl⟩;rw[Rh a]at z;cases z
def kc(w:Ab Nat):Aa Int:=if w=uW then some 1 else if w=K4 then some 1 else if w=Z3f then some 2 else if w=kOr then some 2 else if w=Z3e then some 2 else none
theorem Za4(w:Ab Nat):W6 [("fix",1),("not",1),("and",2),("or",2),("xor",2)] [SS w]=some (match kc w with|some i=>.int i|none=>.non):=by
 show some (match List.lookup (mkS w) [(Str.ofString "fix",(1:Int)),(Str.ofString "not",1),(Str.ofString "and",2),(Str.ofString "or",2),(Str.ofString "xor",2)] with|some i=>D.int i|none=>.non)=_
 rw[Z3P,Z6J,ZaK,ZcP,ZaG];unfold kc;simp only[QaB,nJ,List.lookup_nil];by_cases h1:w=uW
 .simp[h1]
 .by_cases h2:w=K4
  .subst h2;rfl
  .by_cases h3:w=Z3f
   .subst h3;rfl
   .by_cases h4:w=kOr
    .subst h4;rfl
    .by_cases h5:w=Z3e
     .subst h5;rfl
     .simp[h1,h2,h3,h4,h5]
def bnd(w:Ab Nat)(n:Int):Int:=if w=uW then 2 else n
def xL(n:Int)(l:Ab Nat):Bool:=match Wds l with
 |w::ws=>decide (kc w=some (ws.length:Int))&&ws.all (okB (bnd w n))
 |[]=>false
def P3(l:Ab Nat):D:=match Wds l with
 |w::ws=>.tup (SS w::(ws.map dvI).map D.int)
 |[]=>.non
abbrev Z0F(l:Ab Nat)(n:Int)(w:Ab Nat)(ws:Ab (Ab Nat)):En:=[oF (SS l),oF (.int n),oT (.lst ((w::ws).map SS)),oT (SS w),oT (.int (bnd w n))]
abbrev B9(l:Ab Nat)(n:Int)(w:Ab Nat)(ws:Ab (Ab Nat)):En:=[oF (SS l),oF (.int n),oT (.lst ((w::ws).map SS)),oT (SS w),none]
def Z1k{C CE:Af}{l:Ab Nat}{n:Int}(h:Ls l):∃d,mR C CE [SS l,.int n]=some d/\(xL n l=true->d=P3 l)/\(xL n l=false->d=.exc CE):=by
 have hw:=Z0X h;have v:=(jL 32 l).1;have h2:=h.2;refine E4 ?_;show Wp (uY C CE [oF (SS l),oF (.int n),none,none,none]) _;unfold uY;refine gW (qL h rfl) ?_;show Wp (aJ _ _ [oF (SS l),oF (.int n),oT (.lst ((Wds l).map SS)),none,none]) _;unfold xL P3;obtain⟨w,ws,e⟩:=jM 32 l;have q:Wds l=w::ws:=e;have f:(w::ws).length<=401:=by rw[<- e];omega
 rw[q]at hw ⊢;dsimp only;refine gW (d:=SS w) (by rw[lR,iL (w:=w) (ws:=ws) rfl];rfl) ?_;show Wp (aJ _ _ (B9 l n w ws)) _;have r:=uT (ws:=w::ws) (fa:=aD 2) (ac:=(B9 l n w ws)) rfl;have p:cH (fEq (fB1 (W6 [("fix",1),("not",1),("and",2),("or",2),("xor",2)]) (aA (aD 3) aF)) (fI0 (λi j=>.int (i-j)) (fB1 bF (aA (aD 2) aF)) (fC (.int 1)))) (B9 l n w ws)=some (!decide (kc w=some (ws.length:Int))):=by
  rw[gC,iW,cU (xs:=[SS w]) rfl (Za4 w),Z0z,r,gM];dsimp only;cases x:kc w with
  |none=>rfl
  |some k =>
   dsimp only;rw[jI];simp only[QaK,QaO,Qai];congr 3;omega
 cases hc:decide (kc w=some (ws.length:Int)) with
 |false =>
  refine gX (by rw[p,hc];rfl) ?_;exact⟨.exc CE,rfl,λz=>(by cases z),λ_=>rfl⟩
 |true =>
  refine wNo (by rw[p,hc];rfl) ?_;have t:=eqS (w:=w) Z3P (show aD 3 (B9 l n w ws)=some (SS w) from rfl)
  refine gW (d:=.int (bnd w n)) (by
   rw[ZaW,t];unfold bnd;by_cases a:w=uW
   .rw[Ri a,if_pos a];rfl
   .rw[Rh a,if_neg a];rfl) ?_
  show Wp (rOr _ _ _ (Z0F l n w ws)) _;have u:=jO (C:=C) (CE:=CE) (ws:=ws) (b:=bnd w n) (λl hl=>hw l (Qaa _ hl)) (by simp only[Qai]at f;omega);have cl:aL (bX C CE) [] (aA (fSl (aD 2) (fP (fC (.int 1))) cR) (aA (aD 4) aF)) (Z0F l n w ws)=some (if ws.all (okB (bnd w n))=true then LI (ws.map dvI) else .exc CE) :=
   aQ (xs:=[.lst (ws.map SS),.int (bnd w n)]) (aM (iB (w:=w) rfl) rfl) u
  cases o:ws.all (okB (bnd w n)) with
  |true =>
   rw[o,if_pos rfl]at cl;show Rt _ (rOr _ _ _ _);rw[iD cl (λC e=>by cases e)];refine⟨.tup (SS w::(ws.map dvI).map D.int),?_,λ_=>rfl,λz=>(by cases z)⟩
   .have fx:=eJ cl (λC e=>by cases e);have c1:qG (bO (aA (bD (aD 3)) aF)) (fNX (aL (bX C CE) [] (aA (fSl (aD 2) (fP (fC (.int 1))) cR) (aA (aD 4) aF)))) (Z0F l n w ws)=some (.lst (SS w::(ws.map dvI).map D.int)):=by
     unfold qG;rw[fx];show(if [SS w].length+((ws.map dvI).map D.int).length<=1000 then some (D.lst ([SS w]++(ws.map dvI).map D.int)) else none)=_;rw[if_pos (by simp only[Qad,Qai,QaZ]at *;omega)];rfl
    have fl:flats (SS w::(ws.map dvI).map D.int)=true:=by
     have:=mD (ws.map dvI);show(flat (SS w)&&flats ((ws.map dvI).map D.int))=true;rw[this];rfl
    show noX (aZ _ _)=_;unfold aZ;rw[cU (xs:=[.lst (SS w::(ws.map dvI).map D.int)]) (aM c1 rfl) (show nA [.lst (SS w::(ws.map dvI).map D.int)]=some (.tup (SS w::(ws.map dvI).map D.int)) by simp only[nA,fl,Rk])];rfl
  |false =>
   rw[o,if_neg (by decide)]at cl;show Rt _ (rOr _ _ _ _);rw[gF cl rfl];exact⟨.exc CE,rfl,λz=>(by cases z),λ_=>rfl⟩
def Z4y(a:Ab Nat)(mid:Ab (Ab Nat))(z:Ab Nat):Prop:=∃n,Z1M a=some n/\(∀(i:Nat) l,mid[i]?=some l->xL (n+(i:Int)) l=true)/\G7 (n+(mid.length:Int)) z=true
def Tpl(d:D):Prop:=∃ds,d=.tup ds/\flats ds=true
def Z9O(C:Af)(i:Int)(rs:Ab D)(outs:Ab Int):D:=.obj C ["ins","rows","outs"] [.int i,.lst rs,LI outs]
def Z9T(f:rs.length<=1000)(l:∀d∈rs,Tpl d):gK C [.int i,.lst rs,LI outs]=some (Z9O C i rs outs):=by
 have a:cX [] (dZ (aD 2)) fTT (fB1 nA (aA (aD 0) aF)) [none,oF (.int i),oF (.lst rs),oF (LI outs)]=some (.lst rs):=by
  rw[jS (λd=>d) (λd=>d) (xs:=rs) (by simp only[List.map_id'];rfl) f λr hr=>by
   obtain⟨ds,rfl,h⟩:=l r hr;rw[cU (xs:=[.tup ds]) rfl (show nA [.tup ds]=some (.tup ds) by simp only[nA,h,Rk])]]
  rw[List.map_id']
 have b:W5 [.lst (outs.map D.int)]=some (.lst (outs.map D.int)):=by simp only[W5,mD,Rk]
 have j:fB1 W5 (aA (aD 3) aF) [none,oF (.int i),oF (.lst rs),oF (LI outs)]=some (LI outs):=cU (xs:=[LI outs]) rfl b;unfold gK;simp only[a,j];rfl
def Zc0(f:fa ac=some (.lst ((a::mid++[z]).map SS))):fSl fa (fP (kI 1)) (fP (fC (.int (-1)))) ac=some (.lst (mid.map SS)):=by
 unfold fSl;rw[f];show(if flats ((a::mid++[z]).map SS)=true then some (D.lst (PD.cutD ((a::mid++[z]).map SS) (some 1) (some (-1)))) else none)=_;rw[if_pos (mX _),QaT,Qan];congr 2;unfold PD.cutD;generalize mid.map SS=ys;have h:(SS a::ys++[z].map SS).length=ys.length+1+1:=by simp
 have b:HT.sIx (ys.length+1+1) (ys.length+1+1) (some (-1))=ys.length+1:=by
  show(if (-1:Int)<0 then(-1+((ys.length+1+1:Nat):Int)).toNat else min (-1:Int).toNat (ys.length+1+1))=_;rw[if_pos (by decide)];omega
 rw[h,Zbr,b];simp
def Z9Y(b:fa ac=some (.lst ((a::mid++[z]).map SS))):fIx fa (fC (.int (-1))) ac=some (SS z):=by
 rw[jH,b,gM,QaT];exact Z2n _ _
def Z82(b:fa ac=some (.lst ((a::mid++[z]).map SS))):fIx fa (fC (.int 0)) ac=some (SS a):=by
 rw[jH,b,gM,List.cons_append,Qan];exact nP _ _
def Z6S(h:xL n l=true):Tpl (P3 l):=by
 unfold xL at h;unfold P3;split at h
 .rename_i w ws e;have:=mD (ws.map dvI);exact⟨_,rfl,by show(flat (SS w)&&flats ((ws.map dvI).map D.int))=true;rw[this];rfl⟩
 .cases h
abbrev B8(a:Ab Nat)(mid:Ab (Ab Nat))(z:Ab Nat)(n:Int)(rs:Ab D)(l:Ab Nat):En:=[oF (.lst ((a::mid++[z]).map SS)),oT (.int n),oT (.lst rs),oF (SS l)]
theorem Z97{C CE:Af}{a z:Ab Nat}{mid:Ab (Ab Nat)}(ha:Ls a)(hm:∀l∈mid,Ls l)(hz:Ls z)(hl:mid.length<=60) :
  ∃d,pD C CE [.lst ((a::mid++[z]).map SS)]=some d/\(Z4y a mid z->∃n,Z1M a=some n/\d=Z9O C n (mid.map P3) (((Wds z).drop 1).map dvI))/\(¬Z4y a mid z->d=.exc CE):=by
 have el:∀x1 x2 x3,fB1 bF (aA (aD 0) aF) [oF (.lst ((a::mid++[z]).map SS)),x1,x2,x3]=some (.int ((mid.length+2:Nat):Int)):=λx1 x2 x3=>by
  rw[uT (ws:=a::mid++[z]) rfl];congr 2;simp;omega
 refine E4 ?_;show Wp (Z3o C CE [oF (.lst ((a::mid++[z]).map SS)),none,none,none]) _;unfold Z3o;refine wNo (by rw[lF,el,gM];dsimp only;rw[Rh (by omega)]) ?_;refine wNo (by rw[lF,Z0z,el,gM,gM];dsimp only;rw[Rh (by omega)]) ?_;have ri:=Z1l (C:=C) (CE:=CE) ha;have cl:aL (iR C CE) [] (aA (fIx (aD 0) (fC (.int 0))) aF) [oF (.lst ((a::mid++[z]).map SS)),none,none,none]=some (match Z1M a with|some n=>.int n|none=>.exc CE):=aQ (xs:=[SS a]) (aM (Z82 rfl) rfl) ri
 cases hi:Z1M a with
 |none =>
  rw[hi]at cl;refine ZcA ?_;show(match rOr _ _ _ _ with | .next e=>_|r=>Rt _ r:Prop)
  rw[gF cl rfl];exact⟨.exc CE,rfl,λ⟨n,h,_⟩=>(by rw[hi]at h;cases h),λ_=>rfl⟩
 |some n =>
  rw[hi]at cl;have st:rOr dT (aL (iR C CE) [] (aA (fIx (aD 0) (fC (.int 0))) aF)) (bJ 1 (fNX (aL (iR C CE) [] (aA (fIx (aD 0) (fC (.int 0))) aF)))) [oF (.lst ((a::mid++[z]).map SS)),none,none,none]=.next [oF (.lst ((a::mid++[z]).map SS)),oT (.int n),none,none]:=by
   rw[iD cl (λC e=>by cases e)];unfold bJ;rw[eJ cl (λC e=>by cases e)];rfl
  refine ZcA ?_;show(match rOr _ _ _ _ with | .next e=>_|r=>Rt _ r:Prop)
  rw[st];show Wp (aJ _ _ [oF (.lst ((a::mid++[z]).map SS)),oT (.int n),none,none]) _;refine gW (d:=.lst []) rfl ?_;show Wp (aJ _ _ [oF (.lst ((a::mid++[z]).map SS)),oT (.int n),oT (.lst []),none]) _;have sq:dZ (fSl (aD 0) (fP (fC (.int 1))) (fP (fC (.int (-1))))) [oF (.lst ((a::mid++[z]).map SS)),oT (.int n),oT (.lst []),none]=some (mid.map SS):=by rw[Z88,Zc0 rfl]
  have rowc:∀(i:Nat) (rs:Ab D) (l:Ab Nat) (x:Aa (Bool×D)),l∈mid->rs.length=i->∃d,aL (mR C CE) [] (aA (aD 3) (aA (fI0 (λi j=>.int (i+j)) (aD 1) (fB1 bF (aA (aD 2) aF))) aF)) (B8 a mid z n rs l)=some d/\(xL (n+(i:Int)) l=true->d=P3 l/\Tpl d)/\(xL (n+(i:Int)) l=false->d=.exc CE):=by
   intro i rs l x hlm hrs;obtain⟨d,h1,h2,h3⟩:=Z1k (C:=C) (CE:=CE) (n:=n+(i:Int)) (hm l hlm);refine⟨d,?_,λq=>⟨h2 q,by rw[h2 q];exact Z6S q⟩,h3⟩;refine aQ (xs:=[SS l,.int (n+(i:Int))]) (aM rfl (aM (fU (j:=(i:Int)) rfl ?_) rfl)) h1;rw[cU (xs:=[.lst rs]) rfl (show bF [.lst rs]=some (.int (i:Int)) by simp only[bF,hrs])]
  by_cases hrows:∀(i:Nat) l,mid[i]?=some l->xL (n+(i:Int)) l=true
  .refine Q6 sq (λi ac=>∃rs x,ac=[oF (.lst ((a::mid++[z]).map SS)),oT (.int n),oT (.lst rs),x]/\rs.length=i/\i<=60/\(∀d∈rs,Tpl d)/\rs=(mid.take i).map P3) ⟨[],none,rfl,rfl,by omega,(λd h=>by cases h),rfl⟩ ?_ ?_
   .rintro i d ac R hd ⟨rs,x,rfl,hr,hi60,ht,hrs⟩ hR;obtain⟨l,hw,rfl⟩:=jV hd;obtain⟨d,c1,c2,_⟩:=rowc i rs l x (QaE hw) hr;obtain⟨ed,ds,rfl,hf⟩:=c2 (hrows i l hw);have hi2:i<mid.length:=(Qah.mp hw).1;refine⟨_,rfl,?_⟩;show R (rOr _ _ _ (B8 a mid z n rs l));rw[iD c1 (λC e=>by cases e),vO (eJ c1 (λC e=>by cases e)) rfl (by omega)];exact hR _ ⟨rs++[.tup ds],_,rfl,by simp[hr],by omega,λd hd=>by
     rcases Qaf.mp hd with q|q
     .exact ht d q
     .rw[Qaq.mp q];exact⟨ds,rfl,hf⟩,by rw[List.take_succ,hw,QaT,<- hrs,ed];rfl⟩
   .rintro ac ⟨rs,x,rfl,hr,hi60,ht,hrs⟩;rw[Qad]at hr;obtain⟨d,h1,h2,h3⟩:=Z4 (C:=C) (CE:=CE) (n:=n+(mid.length:Int)) hz;have c1:aL (kG C CE) [] (aA (fIx (aD 0) (fC (.int (-1)))) (aA (fI0 (λi j=>.int (i+j)) (aD 1) (fB1 bF (aA (aD 2) aF))) aF)) [oF (.lst ((a::mid++[z]).map SS)),oT (.int n),oT (.lst rs),x]=some d:=by
     refine aQ (xs:=[SS z,.int (n+(mid.length:Int))]) (aM (Z9Y rfl) (aM (fU (j:=(mid.length:Int)) rfl ?_) rfl)) h1;rw[cU (xs:=[.lst rs]) rfl (show bF [.lst rs]=some (.int (mid.length:Int)) by simp only[bF,hr])]
    show Rt _ (rOr _ _ _ _);cases ho:G7 (n+(mid.length:Int)) z with
    |true =>
     obtain rfl:=h2 ho;rw[iD c1 (λC e=>by cases e)];refine⟨Z9O C n rs (((Wds z).drop 1).map dvI),?_,λ_=>⟨n,rfl,by rw[hrs,Qad,Qa0]⟩,λq=>absurd ⟨n,hi,hrows,ho⟩ q⟩;unfold aZ;rw[cU (xs:=[.int n,.lst rs,LI (((Wds z).drop 1).map dvI)]) (aM rfl (aM rfl (aM (eJ c1 (λC e=>by cases e)) rfl))) (Z9T (by omega) ht)];rfl
    |false =>
     rw[h3 ho]at c1;rw[gF c1 rfl];refine⟨.exc CE,rfl,λ⟨n',q1,q2,q3⟩=>?_,λ_=>rfl⟩;rw[hi]at q1;cases q1;rw[ho]at q3;cases q3
  .refine⟨.exc CE,?_,λ⟨n',q1,q2,q3⟩=>?_,λ_=>rfl⟩
   .refine Z1g sq (λi ac=>∃rs x,ac=[oF (.lst ((a::mid++[z]).map SS)),oT (.int n),oT (.lst rs),x]/\rs.length=i/\∀(j:Nat) l,j<i->mid[j]?=some l->xL (n+(j:Int)) l=true) ⟨[],none,rfl,rfl,λj l h=>by omega⟩ ?_ ?_
    .rintro i d ac hd ⟨rs,x,rfl,hr,ht⟩;obtain⟨l,hw,rfl⟩:=jV hd;obtain⟨d,c1,c2,c3⟩:=rowc i rs l x (QaE hw) hr;have hi2:i<mid.length:=(Qah.mp hw).1;refine⟨_,rfl,?_⟩;cases hb:xL (n+(i:Int)) l with
     |true =>
      left;obtain⟨_,ds,rfl,hf⟩:=c2 hb;refine⟨[oF (.lst ((a::mid++[z]).map SS)),oT (.int n),oT (.lst (rs++[.tup ds])),oF (SS l)],.inl ?_,_,_,rfl,by simp[hr],λj l' hj h'=>?_⟩
      .show rOr _ _ _ (B8 a mid z n rs l)=_;rw[iD c1 (λC e=>by cases e),vO (eJ c1 (λC e=>by cases e)) rfl (by omega)];rfl
      .by_cases hji:j=i
       .subst hji;rw[hw]at h';cases h';exact hb
       .exact ht j l' (by omega) h'
     |false =>
      right;left;refine⟨.exc CE,?_,rfl⟩;rw[c3 hb]at c1;show rOr _ _ _ (B8 a mid z n rs l)=_;exact gF c1 rfl
    .rintro ac ⟨rs,x,rfl,hr,ht⟩;rw[Qad]at ht;exact absurd (λi l h=>ht i l (Qah.mp h).1 h) hrows
   .rw[hi]at q1;cases q1;exact absurd q2 hrows
def mO(h:m<10):xU m=[48+m]:=by
 have a:∀d:Fin 10,(Nat.digitChar d).toNat=48+d:=by decide
 unfold xU;rw[Nat.toDigits_of_lt_base h];exact congrArg (λz=>[z]) (a ⟨m,h⟩)
def xS(h:10<=m):xU m=xU (m/10)++[48+m%10]:=by
 have a:m%10<10:=Nat.mod_lt m (by decide);have t:Nat.toDigits 10 (m/10)++Nat.toDigits 10 (m%10)=Nat.toDigits 10 (10*(m/10)+m%10):=Nat.toDigits_append_toDigits (by decide) (by omega) a;rw[Nat.div_add_mod]at t;rw[<- mO a];unfold xU;rw[<- t,QaT]
def Z7w(m:Nat):∀c∈xU m,48<=c/\c<58:=by
 induction m using Nat.strongRecOn with
 |_ m ih =>
  intro c hc;by_cases h:m<10
  .rw[mO h]at hc;have:=Qaq.mp hc;omega
  .rw[xS (by omega)]at hc;rcases Qaf.mp hc with z|z
   .exact ih (m/10) (by omega) c z
   .have:=Qaq.mp z;omega
def Z9R(m:Nat):xU m≠[]:=by
 by_cases h:m<10
 .rw[mO h];simp
 .rw[xS (by omega)];simp
theorem Z1C:∀(k m:Nat),m<10^(k+1)->(xU m).length<=k+1
 |0,m,h=>by rw[mO (by omega)];simp
 |k+1,m,h=>by
  by_cases h1:m<10
  .rw[mO h1];simp
  .have:=Z1C k (m/10) (by rw[Nat.pow_succ]at h;omega);rw[xS (by omega),Qaj,QaG];omega
def Z9Q(m:Nat):Z5B (m:Int)=mkS (xU m):=by rw[<- Z35 (Z5B (m:Int)),Z5A]
def ZdY{n:Int}(a:0<=n)(h1:n<1000000000):(if n.natAbs.log2<1920 then some (D.str (Str.ofString (toString n))) else none)=some (SS (xU n.toNat)):=by
 have:n.natAbs.log2<1920:=by
  rcases Nat.eq_zero_or_pos n.natAbs with z|z
  .rw[z];decide
  .rw[Nat.log2_lt (Qbu z)];have h1:n.natAbs<1000000000:=by omega
   exact Qaw h1 (Qay (show 1000000000<=2^30 by decide) (Nat.pow_le_pow_right (by decide) (by decide)))
 rw[if_pos this];obtain⟨m,rfl⟩:=Qa7 a;show some (D.str (Z5B (m:Int)))=_;rw[Z9Q];rfl
def Zdp{n:Int}(a:0<=n)(h1:n<1000000000):rZ [.int n]=some (SS (xU n.toNat)):=ZdY a h1
def Wo(k:Nat)(l:Ab Nat):Prop:=(∀c∈l,c<128/\c≠32)/\l≠[]/\l.length<=k
def Zb8(h:m<10^(k+1)):Wo (k+1) (xU m):=⟨λc hc=>by have:=Z7w m c hc;omega,Z9R m,Z1C k m h⟩
def jn:Ab (Ab Nat)->Ab Nat
 |[]=>[]
 |w::ws=>pY w ws
def Z6y(ws:Ab (Ab Nat)):vK (ws.map SS)=some (ws.map mkS):=by
 induction ws with
 |nil=>rfl
 |cons w ws ih=>show(vK (ws.map SS)).map _=_;rw[ih];rfl
theorem K8:∀(ws:Ab (Ab Nat)),inD (SS k) (ws.map SS)=some (decide (k∈ws))
 |[]=>rfl
 |w::ws=>by
  have e:eqN 8 (SS w) (SS k)=some (decide (w=k)):=by
   show eqN 8 (.str (mkS w)) (.str (mkS k))=_;rw[eN,nJ]
  rw[Qan];unfold inD;rw[e,K8 ws];simp only[QaO,Qab,Bool.decide_or];congr 1;exact decide_eq_decide.mpr eq_comm
def Z23{ws:Ab (Ab Nat)}{ac:En}{fa:En->Aa D}(a:fa ac=some (.lst (ws.map SS))):fIn (kS "") fa ac=some (decide ([]∈ws)):=by
 unfold fIn;rw[a];show inD (.str "") (ws.map SS)=_;rw[Z3Q];exact K8 ws
def vW(h:Ls l):eB C CL [SS l]=some (if okN l=true then .int (dvI l) else .exc CL):=by
 have b:=wE (C:=C) h;have f:cH (fB (aL (iV C) [] (aA (aD 0) aF))) [oF (SS l)]=some (!okN l):=by
  rw[gC,tP,aQ (xs:=[SS l]) rfl b];rfl
 refine qF ?_;show Wp (rJ C CL [oF (SS l)]) _;unfold rJ;cases a:okN l with
 |false=>exact gX (by rw[f,a];rfl) rfl
 |true =>
  refine wNo (by rw[f,a];rfl) ?_;show noX (aZ _ _)=_;unfold aZ;rw[cU (xs:=[SS l]) rfl (Z4l a)];rfl
abbrev FORMS:Ab (Ab Key×Ab Str):=[([.inr "give",.inl 1],["number"]),([.inr "stuck",.inl 3],["number","bit","number"]),([.inr "leg",.inl 4],["number","bit","bit","number"]),([.inr "faults",.inl 0],[]),([.inr "idle",.inl 0],[]),([.inr "tells",.inl 2],["number","bit"]),([.inr "tells",.inl 3],["number","bit","bit"]),([.inr "lean",.inl 0],[])]
def okK(p:Ab Nat×Str):Bool:=okN p.1 && !(decide (p.2=Str.ofString "bit")&&decide (1<dvI p.1))
def Z8u{α β a:Type}{f:α×β->a}{xs:Ab α}{ys:Ab β}{i:Nat}{c:a}(h:((xs.zip ys).map f)[i]?=some c):∃p,(xs.zip ys)[i]?=some p/\c=f p:=by
 rw[Qax]at h;obtain⟨p,h1,h2⟩:=Option.map_eq_some_iff.mp h;exact⟨p,h1,h2.symm⟩
theorem Z6i:∀(ws:Ab (Ab Nat)) (ks:Ab Str),O2 [.lst (ws.map SS),.tup (ks.map D.str)]=some ((ws.zip ks).map λp=>.tup [SS p.1,.str p.2])
 |[],ks=>rfl
 |w::ws,[]=>rfl
 |w::ws,k::ks=>by
  have:=Z6i ws ks;simp only[O2,QaO]at this;simp only[O2,Qan,qI,Qba,this]
abbrev B7(w:Ab Nat)(ws:Ab (Ab Nat))(ks:Ab Str)(i:Nat)(l:Ab Nat)(k:Str):En:=[oF (.lst ((w::ws).map SS)),oF (.tup (ks.map D.str)),oT (LI ((ws.take i).map dvI)),oF (SS l),oF (.str k),oT (.int (dvI l))]
abbrev Z0E(w:Ab Nat)(ws:Ab (Ab Nat))(ks:Ab Str)(i:Nat)(l:Ab Nat)(k:Str)(z:Aa (Bool×D)):En:=[oF (.lst ((w::ws).map SS)),oF (.tup (ks.map D.str)),oT (LI ((ws.take i).map dvI)),oF (SS l),oF (.str k),z]
abbrev wV(w:Ab Nat)(ws:Ab (Ab Nat)):En:=[oF (.lst ((w::ws).map SS)),none,none,none,none,none]
theorem nI{C CL:Af}{w:Ab Nat}{ws:Ab (Ab Nat)}(h:∀l∈ws,Ls l)(hl:ws.length<=400)(hf:∀ks,lkT FORMS [.inr (mkS w),.inl (ws.length:Int)]=some ks->ks.length=ws.length) :
  cF C CL [.lst ((w::ws).map SS)]=some (match lkT FORMS [.inr (mkS w),.inl (ws.length:Int)] with|some ks=>if (ws.zip ks).all okK=true then LI (ws.map dvI) else .exc CL|none=>.exc CL):=by
 refine qF ?_;show Wp (jQ C CL (wV w ws)) _;unfold jQ;have e1:fB1 (Z2s FORMS) (aA (tN (aA (bD (fIx (aD 0) (fC (.int 0)))) (aA (fI0 (λi j=>.int (i-j)) (fB1 bF (aA (aD 0) aF)) (fC (.int 1))) aF))) aF) (wV w ws)=some (match lkT FORMS [.inr (mkS w),.inl (ws.length:Int)] with|some ss=>.tup (ss.map D.str)|none=>.non):=by
  refine cU (xs:=[.tup [SS w,.int (ws.length:Int)]]) (aM ?_ rfl) rfl;have a1:bD (fIx (aD 0) (fC (.int 0))) (wV w ws)=some (SS w):=by rw[lR,iL (w:=w) (ws:=ws) rfl];rfl
  have a2:fI0 (λi j=>.int (i-j)) (fB1 bF (aA (aD 0) aF)) (fC (.int 1)) (wV w ws)=some (.int (ws.length:Int)):=by
   rw[Z0z,uT (ws:=w::ws) rfl,gM];simp only[Qai];congr 2;omega
  unfold tN;rw[show aA (bD (fIx (aD 0) (fC (.int 0)))) (aA (fI0 (λi j=>.int (i-j)) (fB1 bF (aA (aD 0) aF)) (fC (.int 1))) aF) (wV w ws)=some [SS w,.int (ws.length:Int)] from aM a1 (aM a2 rfl)]
  rfl
 refine gW e1 ?_;cases hk:lkT FORMS [.inr (mkS w),.inl (ws.length:Int)] with
 |none=>exact gX rfl rfl
 |some ks =>
  have hkl:=hf ks hk;dsimp only;refine wNo rfl ?_;refine gW (d:=.lst []) rfl ?_;show aJ _ _ [oF (.lst ((w::ws).map SS)),oT (.tup (ks.map D.str)),oT (.lst []),none,none,none]=_;have ez:sB1 O2 (aA (fSl (aD 0) (fP (fC (.int 1))) cR) (aA (aD 1) aF)) [oF (.lst ((w::ws).map SS)),oT (.tup (ks.map D.str)),oT (.lst []),none,none,none]=some ((ws.zip ks).map λp=>.tup [SS p.1,.str p.2]):=by
   refine qO (xs:=[.lst (ws.map SS),.tup (ks.map D.str)]) (aM (iB (w:=w) rfl) rfl) ?_;exact Z6i ws ks
  refine Z1g ez (λi ac=>∃x y z,ac=[oF (.lst ((w::ws).map SS)),oF (.tup (ks.map D.str)),oT (LI ((ws.take i).map dvI)),x,y,z]/\((ws.zip ks).take i).all okK=true) ⟨none,none,none,rfl,rfl⟩ ?_ ?_
  .rintro i d ac hd ⟨x,y,z,rfl,ha⟩;obtain⟨⟨l,k⟩,hp,rfl⟩:=Z8u hd;have hz:=List.getElem?_zip_eq_some.mp hp;have hL:=h l (QaE hz.1);have no:=vW (C:=C) (CL:=CL) hL;refine⟨_,rfl,?_⟩;have cl:∀z,aL (eB C CL) [] (aA (aD 3) aF) (Z0E w ws ks i l k z)=some (if okN l=true then .int (dvI l) else .exc CL):=λz=>aQ (xs:=[SS l]) rfl no;cases hn:okN l with
   |false =>
    right;left;have nb:(ws.zip ks).all okK=false:=lI hp (by unfold okK;rw[hn];rfl);refine⟨.exc CL,?_,by rw[nb];rfl⟩;have c1:=cl z;rw[hn]at c1;show aJ _ _ (Z0E w ws ks i l k z)=_;unfold aJ;rw[gF c1 rfl]
   |true =>
    have c1:=cl z;rw[hn,if_pos rfl]at c1;have s1:rOr dT (aL (eB C CL) [] (aA (aD 3) aF)) (bJ 5 (fNX (aL (eB C CL) [] (aA (aD 3) aF)))) (Z0E w ws ks i l k z)=.next (B7 w ws ks i l k):=by
     rw[iD c1 (λC e=>by cases e)];unfold bJ;rw[eJ c1 (λC e=>by cases e)];rfl
    have eb:fV (fEq (aD 4) (fC (.str "bit"))) (fBI (λi j=>decide (j<i)) (aD 5) (fC (.int 1))) (B7 w ws ks i l k)=some (decide (k=Str.ofString "bit")&&decide (1<dvI l)):=by
     have a1:fEq (aD 4) (fC (.str "bit")) (B7 w ws ks i l k)=some (decide (k=Str.ofString "bit")):=by
      show eqN 8 (.str k) (.str "bit")=_;rw[eN];congr 1
     rw[pN,a1];cases decide (k=Str.ofString "bit")<;>rfl
    cases hb:(decide (k=Str.ofString "bit")&&decide (1<dvI l)) with
    |true =>
     right;left;have nb:(ws.zip ks).all okK=false:=lI hp (by unfold okK;rw[hn,hb];rfl);refine⟨.exc CL,?_,by rw[nb];rfl⟩;refine Z52 s1 ?_;unfold aJ rIf;rw[eb,hb];rfl
    |false =>
     left;have kb:okK (l,k)=true:=by unfold okK;rw[hn,hb];rfl
     refine⟨[oF (.lst ((w::ws).map SS)),oF (.tup (ks.map D.str)),oT (LI ((ws.take (i+1)).map dvI)),oF (SS l),oF (.str k),oT (.int (dvI l))],.inl ?_,_,_,_,rfl,oU hp ha kb⟩;refine Z52 s1 ?_;refine sNo (by rw[eb,hb]) ?_;have hlen:(((ws.take i).map dvI).map D.int).length<=1000:=by rw[Qad,Qad,QaV];omega
     show noX (kD 2 (bD (aD 5)) (B7 w ws ks i l k))=_;rw[vO (d:=.int (dvI l)) rfl rfl hlen];show Res.next _=_;rw[List.take_succ,hz.1];simp[LI]
  .rintro env' ⟨x,y,z,rfl,ha⟩;have hzl:((ws.zip ks).map λp=>D.tup [SS p.1,.str p.2]).length=ws.length:=by rw[Qad,List.length_zip,hkl,Nat.min_self]
   rw[hzl,show(ws.zip ks).take ws.length=ws.zip ks from Qbl (by rw[List.length_zip];omega)]at ha
   rw[hzl,Qa0,ha];rfl
def zE(f:ns.length<=100):pF C [LI ns]=some (.tup (.str (if ns.length=2 then "wire" else "leg")::ns.map D.int)):=by
 have b:bF [LI ns]=some (.int (ns.length:Int)):=by simp only[bF,LI,Qad]
 have a:fEq (fB1 bF (aA (aD 0) aF)) (fC (.int 2)) [oF (LI ns),none]=some (decide (ns.length=2)):=by
  rw[iW,cU (xs:=[LI ns]) rfl b,gM];dsimp only;rw[jI];congr 1;exact decide_eq_decide.mpr (by omega)
 refine iC ?_;show vC C [oF (LI ns),none]=_;unfold vC;refine Z1f (d:=.str (if ns.length=2 then "wire" else "leg")) ?_ ?_
 .rw[ZaW,a];by_cases h:ns.length=2
  .rw[Ri h,if_pos h];rfl
  .rw[Rh h,if_neg h];rfl
 generalize (if ns.length=2 then("wire" : Str) else "leg")=k;have fl:flats (.str k::ns.map D.int)=true:=by
  show(flat (.str k)&&flats (ns.map D.int))=true;rw[mD ns];rfl
 refine iY (cU (xs:=[.lst (.str k::ns.map D.int)]) (aM ?_ rfl) (by simp only[nA,fl,Rk]));show M3 (bO (aA (bD (aD 1)) aF)) (aD 0) [oF (LI ns),oT (.str k)]=_;rw[Z4D];show(if (flats [.str k]=true/\flats (ns.map D.int)=true)/\[D.str k].length+(ns.map D.int).length<=1000 then some (D.lst ([.str k]++ns.map D.int)) else none)=_;rw[if_pos ⟨⟨rfl,mD ns⟩,by simp only[Qad,Qai,QaZ];omega⟩];rfl
def fF(ls:Ab (Ab (Ab Nat)))(w:Ab Nat):Ab (Ab (Ab Nat)):=if w=[47] then ls++[[]] else ls.dropLast++[ls.getLastD []++[w]]
def P6(ws:Ab (Ab Nat)):Ab (Ab (Ab Nat)):=ws.foldl fF [[]]
def Z6z(ls:Ab (Ab (Ab Nat)))(w:Ab Nat):fF ls w≠[]:=by unfold fF;split<;>simp
def Z8U:Str.ofString "/" = mkS [47]:=by decide +kernel
def LW(ls:Ab (Ab (Ab Nat))):Ab D:=ls.map λl=>.lst (l.map SS)
def Z4X(ls:Ab (Ab (Ab Nat)))(w:Ab Nat):(fF ls w).length<=ls.length+1:=by
 unfold fF;split
 .simp
 .rw[Qaj,List.length_dropLast,QaG];omega
theorem sY:∀(ws:Ab (Ab Nat)) (ls:Ab (Ab (Ab Nat))),(ws.foldl fF ls).length<=ls.length+ws.length
 |[],ls=>by simp
 |w::ws,ls=>by
  have h1:=sY ws (fF ls w);have h2:=Z4X ls w;simp only[List.foldl_cons,Qai];omega
def Z6A{P:Ab Nat->Prop}{n:Nat}{ls:Ab (Ab (Ab Nat))}{w:Ab Nat}(h:∀l∈ls,(∀v∈l,P v)/\l.length<=n)(hw:P w):∀l∈fF ls w,(∀v∈l,P v)/\l.length<=n+1:=by
 intro l a;unfold fF at a;split at a
 .rcases Qaf.mp a with z|z
  .exact⟨(h l z).1,Nat.le_succ_of_le (h l z).2⟩
  .rw[Qaq.mp z];exact⟨λv hv=>(by cases hv),by simp⟩
 .rcases Qaf.mp a with z|z
  .exact⟨(h l (List.dropLast_subset _ z)).1,Nat.le_succ_of_le (h l (List.dropLast_subset _ z)).2⟩
  .rw[Qaq.mp z];have b:(∀v∈ls.getLastD [],P v)/\(ls.getLastD []).length<=n:=by
    cases hq:ls.getLast? with
    |none=>rw[Qbq,hq];exact⟨λv hv=>(by cases hv),by simp⟩
    |some g=>rw[Qbq,hq];exact h g (List.mem_of_getLast? hq)
   refine⟨λv hv=>?_,by rw[Qaj,QaG];omega⟩;rcases Qaf.mp hv with z|z
   .exact b.1 v z
   .rw[Qaq.mp z];exact hw
theorem wL{P:Ab Nat->Prop}:∀(ws:Ab (Ab Nat)) (n:Nat) (ls:Ab (Ab (Ab Nat))),(∀w∈ws,P w)->(∀l∈ls,(∀v∈l,P v)/\l.length<=n)->∀l∈ws.foldl fF ls,(∀v∈l,P v)/\l.length<=n+ws.length
 |[],n,ls,_,h=>h
 |w::ws,n,ls,hw,h=>by
  have:=wL ws (n+1) (fF ls w) (λv hv=>hw v (Qaa _ hv)) (Z6A h (hw w Qag));intro l f;obtain⟨a,b⟩:=this l f;exact⟨a,by simp only[Qai];omega⟩
theorem M1:∀(ws:Ab (Ab Nat)) {ls:Ab (Ab (Ab Nat))},ls≠[]->ws.foldl fF ls≠[]
 |[],ls,h=>h
 |w::ws,ls,h=>M1 ws (Z6z ls w)
def yO(a b:Ab (Ab (Ab Nat))):LW (a++b)=LW a++LW b:=by unfold LW;rw[QaT]
def K5(h:∀w∈ws,w.length<=400)(n:ws.length<=400){ac:En}{fa:En->Aa D}(b:fa ac=some (.lst (ws.map SS))):qC (kS " ") fa ac=some (SS (jn ws)):=by
 have hs:∀{us:Ab (Ab Nat)},(∀w∈us,w.length<=400)->((us.map mkS).map (·.length)).sum<=us.length*400:=by
  intro us
  induction us with
  |nil=>intro _;simp
  |cons w us ih =>
   intro a;have h1:=ih λv hv=>a v (Qaa _ hv);have h2:=a w Qag;simp only[Qan,List.sum_cons,Qai,fQ,Nat.add_mul,Nat.one_mul];omega
 have j:=hs h;have f:((ws.map mkS).map (·.length)).sum+(ws.map mkS).length*(Str.ofString " ").length<=1000000:=by
  rw[N8];show _+_*1<=_;rw[Qad,Nat.mul_one];omega
 have i:Txt.join (Str.ofString " ") (ws.map mkS)=mkS (jn ws):=by
  rw[N8];cases ws with
  |nil=>rfl
  |cons w ws =>
   rw[Qan,Z5L,cP,Qbc];show mkS (pY w (ws.map λl=>(mkS l).cps.toList))=mkS (pY w ws);congr 2
   conv=>rhs;rw[<- List.map_id ws]
   exact Qbs λl _=>cP l
 unfold qC;rw[b];simp only[fC,Z6y,f,Rk,i];rfl
theorem Z4q{ws:Ab (Ab Nat)}{k:En->Res}{r:Res}(hl1:ws.length<=400)(q:∀x,k [oF (.lst (ws.map SS)),oT (.lst (LW (P6 ws))),x]=r) :
  aJ (eZ [0] (dZ (aD 0)) (gtN 2) (rIf (fEq (aD 2) (kS "/")) (kD 1 (bO aF)) (nH 1 (fC (.int (-1))) (bD (aD 2))))) k [oF (.lst (ws.map SS)),oT (.lst [.lst []]),none]=r:=by
 refine ZcQ (ds:=ws.map SS) rfl (λi ac=>∃x,ac=[oF (.lst (ws.map SS)),oT (.lst (LW ((ws.take i).foldl fF [[]]))),x]) ⟨none,rfl⟩ ?_ ?_
 .rintro i d ac hd ⟨x,rfl⟩;obtain⟨w,hw,rfl⟩:=jV hd;have hL:=sY (ws.take i) [[]];have hin':=wL (P:=λ_=>True) (ws.take i) 0 [[]] (λv hv=>trivial) (λl hl=>by rw[Qaq.mp hl];exact⟨λv hv=>(by cases hv),by simp⟩);have hne':=M1 (ws.take i) (ls:=[[]]) (by simp);have hst:(ws.take (i+1)).foldl fF [[]]=fF ((ws.take i).foldl fF [[]]) w:=by rw[List.take_succ,hw,List.foldl_append];rfl
  have hti:(ws.take i).length<=400:=by rw[QaV];omega
  generalize (ws.take i).foldl fF [[]]=L at *
  simp only[QaG]at hL;have e1:=eqS (w:=w) Z8U (show aD 2 [oF (.lst (ws.map SS)),oT (.lst (LW L)),oF (SS w)]=some (SS w) from rfl)
  refine⟨_,[oF (.lst (ws.map SS)),oT (.lst (LW (fF L w))),oF (SS w)],rfl,?_,oF (SS w),by rw[hst]⟩;show rIf _ _ _ [oF (.lst (ws.map SS)),oT (.lst (LW L)),oF (SS w)]=_;unfold rIf;rw[e1];by_cases hs:w=[47]
  .rw[Ri hs];show kD 1 (bO aF) _=_;rw[vO (d:=.lst []) rfl rfl (by unfold LW;rw[Qad];omega)];unfold fF;rw[if_pos hs,yO];rfl
  .rw[Rh hs];obtain⟨L0,g,rfl⟩:∃L0 g,L=L0++[g]:=by
    rcases List.eq_nil_or_concat L with z|⟨L0,g,z⟩
    .exact absurd z hne'
    .exact⟨L0,g,by rw[z,List.concat_eq_append]⟩
   have hg:=(hin' g (by simp)).2;have e2:fF (L0++[g]) w=L0++[g++[w]]:=by
    unfold fF;rw[if_neg hs,List.dropLast_concat,List.getLastD_concat]
   have e3:ixN (LW (L0++[g])).length (-1)=some L0.length:=by
    unfold ixN LW;rw[Qad,Qaj,QaG,if_neg (by decide),if_pos (by omega)];congr 1;omega
   have e4:(LW (L0++[g]))[L0.length]?=some (.lst (g.map SS)):=by
    rw[yO,Qa3 (by unfold LW;rw[Qad];exact Qap _)];unfold LW;rw[Qad,Nat.sub_self];rfl
   have e5:(LW (L0++[g])).set L0.length (.lst (g.map SS++[SS w]))=LW (L0++[g++[w]]):=by
    have hl0:(LW L0).length=L0.length:=by unfold LW;rw[Qad]
    rw[yO,yO,List.set_append_right _ _ (by omega),hl0,Nat.sub_self];unfold LW;simp
   show nH 1 (fC (.int (-1))) (bD (aD 2)) [oF (.lst (ws.map SS)),oT (.lst (LW (L0++[g]))),oF (SS w)]=_;unfold nH;rw[show bD (aD 2) [oF (.lst (ws.map SS)),oT (.lst (LW (L0++[g]))),oF (SS w)]=some (SS w) from rfl]
   show(match ixN (LW (L0++[g])).length (-1) with|some j=>_|none=>_)=_
   rw[e3];show(match (LW (L0++[g]))[L0.length]? with|some (.lst es)=>_|_=>_)=_
   rw[e4];show(if (g.map SS).length<=1000/\flats (g.map SS)=true/\flat (SS w)=true then _ else _)=_;rw[if_pos ⟨by rw[Qad];omega,mX g,rfl⟩,e5,e2];rfl
 .rintro ac ⟨x,rfl⟩;rw[Qad,Qa0];exact q x
def yL{C CL:Af}{ws:Ab (Ab Nat)}(f:ws≠[])(h:∀w∈ws,w.length<=400)(i:ws.length<400):iI C CL [.lst (ws.map SS)]=some (.lst ((P6 ws).map λl=>SS (jn l))):=by
 have n:=wL (P:=λw=>w.length<=400) ws 0 [[]] h (λl i=>by rw[Qaq.mp i];exact⟨λv hv=>(by cases hv),by simp⟩);have j:=sY ws [[]];simp only[QaG]at j;refine iC ?_;show kU C CL [oF (.lst (ws.map SS)),none,none]=_;unfold kU;refine sNo ?_ ?_
 .cases ws with
  |nil=>exact absurd rfl f
  |cons w ws=>rfl
 refine oB ?_ (λC e=>by cases e);refine Z1f (d:=.lst [.lst []]) rfl ?_;refine Z4q (by omega) λx=>iY ?_;rw[jS (λl=>.lst (l.map SS)) (λl=>SS (jn l)) (xs:=ws.foldl fF [[]]) rfl (by omega) (λl hl'=>by
  obtain⟨a,b⟩:=n l hl';rw[Qbo]at b;exact K5 a (by omega) rfl)]
 rfl
def Z3d(a:ws.length<=400):sT C [.lst (ws.map SS)]=some (.lst (LW (P6 ws))):=by
 refine iC ?_;show yG C [oF (.lst (ws.map SS)),none,none]=_;unfold yG;refine Z1f (d:=.lst [.lst []]) rfl ?_;exact Z4q a λx=>rfl
def yB:Ab Nat:=[110,101,119]
def tZ:Ab Nat:=[103,105,118,101]
def rE:Ab Nat:=[115,116,117,99,107]
def Z1K:Ab Nat:=[108,101,103]
def kTells:Ab Nat:=[116,101,108,108,115]
def jG:Ab Nat:=[110,97,109,101,100]
def iK:Ab Nat:=[102,97,117,108,116,115]
def nL:Ab Nat:=[105,100,108,101]
def mV:Ab Nat:=[108,101,97,110]
def Z6L:Str.ofString "new" = mkS yB:=by decide +kernel
def xJ:Str.ofString "give" = mkS tZ:=by decide +kernel
def A9:Str.ofString "stuck" = mkS rE:=by decide +kernel
def Z3O:Str.ofString "leg" = mkS Z1K:=by decide +kernel
def vM:Str.ofString "tells" = mkS kTells:=by decide +kernel
def Z6K:Str.ofString "named" = mkS jG:=by decide +kernel
def Z0x(h:Ls l){ac:En}{fa:En->Aa D}(a:fa ac=some (SS l)):oQ fa ac=some (l.map λc=>D.str ⟨#[c]⟩):=by
 rw[Z4C,a];show(if (mkS l).cps.all (· < 128)=true then some (qM (mkS l)) else none)=_;rw[Z4K h,if_pos rfl];unfold qM;rw[cP]
def S8(a:fa ac=some (.str ⟨#[c]⟩)):cH (fIn fa (fC (.str "0123456789"))) ac=some (!dig c):=by
 rw[gC,U8,a,gM];simp only[];rw[Z7O];rfl
def Z6r(h:Ls l)(p:l.all dig=true)(x:Aa (Bool×D)) :
  dH (fOr (fB (dH (fEq (aD 0) (fC (.str "0"))))) (fB (dH (fV (fB (fI0 (λi j=>.bl (decide (i<j))) (fC (.int 0)) (fB1 bF (aA (aD 0) aF)))) (fB (dH (fV (fB (fI0 (λi j=>.bl (decide (i<j))) (fB1 bF (aA (aD 0) aF)) (fC (.int 10)))) (fB (dH (cH (fEq (fIx (aD 0) (fC (.int 0))) (fC (.str "0"))))))))))))) [oF (SS l),x]=some (.bl (okN l)):=by
 have u:fEq (aD 0) (fC (.str "0")) [oF (SS l),x]=some (decide (l=[48])):=eqS oY rfl;have a:fB1 bF (aA (aD 0) aF) [oF (SS l),x]=some (.int (l.length:Int)):=cU (xs:=[SS l]) rfl (Z4j h);have b:fB (fI0 (λi j=>.bl (decide (i<j))) (fC (.int 0)) (fB1 bF (aA (aD 0) aF))) [oF (SS l),x]=some (decide ((0:Int)<(l.length:Int))):=by rw[tP,fU rfl a]
 have q:fB (fI0 (λi j=>.bl (decide (i<j))) (fB1 bF (aA (aD 0) aF)) (fC (.int 10))) [oF (SS l),x]=some (decide ((l.length:Int)<10)):=by rw[tP,fU a rfl]
 have v:fB (dH (fEq (aD 0) (fC (.str "0")))) [oF (SS l),x]=some (decide (l=[48])):=by rw[tP,iT,u];rfl
 rw[iT,qD,v];cases l with
 |nil =>
  rw[tP,iT,pN,b];rfl
 |cons c r =>
  have t:fEq (fIx (aD 0) (fC (.int 0))) (fC (.str "0")) [oF (SS (c::r)),x]=some (decide ([c]=[48])):=eqS oY (Z4x h rfl);have n:fB (dH (cH (fEq (fIx (aD 0) (fC (.int 0))) (fC (.str "0"))))) [oF (SS (c::r)),x]=some (!decide ([c]=[48])):=by rw[tP,iT,gC,t];rfl
  have o:fB (dH (fV (fB (fI0 (λi j=>.bl (decide (i<j))) (fB1 bF (aA (aD 0) aF)) (fC (.int 10)))) (fB (dH (cH (fEq (fIx (aD 0) (fC (.int 0))) (fC (.str "0")))))))) [oF (SS (c::r)),x]=some (decide (((c::r).length:Int)<10) && !decide ([c]=[48])):=by
   rw[tP,iT,pN,q,n];cases decide (((c::r).length:Int)<10)<;>rfl
  rw[tP,iT,pN,b,o,show decide ((0:Int)<((c::r).length:Int))=true from Ri (by simp)]
  unfold okN;rw[p];by_cases f:c::r=[48]
  .rw[f];rfl
  .have hd:decide (((c::r).length:Int)<10)=decide ((c::r).length<=9):=by rw[decide_eq_decide];omega
   rw[hd,Rh f];by_cases hc:c=48
   .subst hc;cases decide ((48::r).length<=9)<;>simp
   .cases decide ((c::r).length<=9)<;>simp[hc]
def zW(h:Ls l):fY C [SS l]=some (.bl (okN l)):=by
 refine qF ?_;show Wp (mW C [oF (SS l),none]) _;unfold mW;refine Z1g (ds:=l.map λc=>D.str ⟨#[c]⟩) (Z0x h rfl) (λi ac=>∃x,ac=[oF (SS l),x]/\(l.take i).all dig=true) ⟨none,rfl,rfl⟩ ?_ ?_
 .rintro i d ac hd ⟨x,rfl,ha⟩;obtain⟨c,hw,rfl⟩:=jV hd;refine⟨_,rfl,?_⟩;cases a:dig c with
  |false =>
   right;left;refine⟨.bl false,?_,?_⟩
   .show rIf _ _ _ [oF (SS l),oF (.str ⟨#[c]⟩)]=_;unfold rIf;rw[S8 (c:=c) rfl,a];rfl
   .have:l.all dig=false:=lI hw a;unfold okN;rw[this,Bool.and_false]
  |true =>
   left;refine⟨[oF (SS l),oF (.str ⟨#[c]⟩)],.inl ?_,_,rfl,oU hw ha a⟩;show rIf _ _ _ [oF (SS l),oF (.str ⟨#[c]⟩)]=_;unfold rIf;rw[S8 (c:=c) rfl,a];rfl
 .rintro env' ⟨x,rfl,ha⟩;rw[Qad,Qa0]at ha;unfold aZ;rw[Z6r h ha x]
abbrev wU(ws:Ab (Ab Nat))(b:Int)(l:Ab Nat):En:=[oF (.lst (ws.map SS)),oF (.int b),oF (SS l)]
def uV{C:Af}{ws:Ab (Ab Nat)}{b:Int}(h:∀l∈ws,Ls l):dF C [.lst (ws.map SS),.int b]=some (.bl (ws.all (okB b))):=by
 refine qF ?_;show Wp (yH C [oF (.lst (ws.map SS)),oF (.int b),none]) _;unfold yH;refine Z1g (ds:=ws.map SS) rfl (λi ac=>∃x,ac=[oF (.lst (ws.map SS)),oF (.int b),x]/\(ws.take i).all (okB b)=true) ⟨none,rfl,rfl⟩ ?_ ?_
 .rintro i d ac hd ⟨x,rfl,ha⟩;obtain⟨l,hw,rfl⟩:=jV hd;have p:=h l (QaE hw);refine⟨_,rfl,?_⟩;have o:cH (fB (aL (fY C) [] (aA (aD 2) aF))) (wU ws b l)=some (!okN l):=by
   rw[gC,tP,aQ (xs:=[SS l]) rfl (zW (C:=C) p)];rfl
  have n:fOr (cH (fB (aL (fY C) [] (aA (aD 2) aF)))) (fBI (λi j=>decide (j<=i)) (fB1 uJ (aA (aD 2) aF)) (aD 1)) (wU ws b l)=some (!okB b l):=by
   rw[qD,o];cases a:okN l with
   |false=>unfold okB;rw[a];rfl
   |true =>
    show fBI _ _ _ _=_;rw[lF,cU (xs:=[SS l]) rfl (Z4l a)];show some (decide (b<=dvI l))=_;unfold okB;rw[a,Bool.true_and];congr 1;by_cases f:b<=dvI l
    .rw[Ri f,Rh (by omega)];rfl
    .rw[Rh f,Ri (by omega)];rfl
  cases a:okB b l with
  |false =>
   right;left;refine⟨.bl false,?_,by rw[lI hw a]⟩;show rIf _ _ _ (wU ws b l)=_;unfold rIf;rw[n,a];rfl
  |true =>
   left;refine⟨(wU ws b l),.inl ?_,_,rfl,oU hw ha a⟩;show rIf _ _ _ (wU ws b l)=_;unfold rIf;rw[n,a];rfl
 .rintro env' ⟨x,rfl,ha⟩;rw[Qad,Qa0]at ha;rw[ha];rfl
def orF(h:A ac=some false):fOr A B ac=B ac:=by rw[qD,h]
def orT(h:A ac=some true):fOr A B ac=some true:=by rw[qD,h]
def ZbL(ac:En):fI2 Zcq (λi j=>.int (i^j.toNat)) (fC (.int 10)) (fC (.int 9)) ac=some (.int 1000000000):=by
 rw[dO rfl rfl ⟨by decide,by decide,by decide⟩];rfl
def Lr(s:Str):D:=.lst [.str s]
def okA(ws:Ab (Ab Nat)):Bool:=(ws.take 1).all (okB 1000000000)&&(ws.drop 1).all (okB 2)
def cM:Ab (Ab Nat)->D
 |[a,b]=>if okA [a,b]=true then(if a=[48] then SS b else Lr "wire") else Lr "line"
 |[a,b,c]=>if okA [a,b,c]=true then Lr "wire" else Lr "line"
 |_=>Lr "line"
def rX{C:Af}{ws:Ab (Ab Nat)}{b:Int}(h:∀l∈ws,Ls l){ac:En}{fa fb:En->Aa D}(a:fa ac=some (.lst (ws.map SS)))(f:fb ac=some (.int b)):cH (fB (aL (dF C) [] (aA fa (aA fb aF)))) ac=some (!ws.all (okB b)):=by
 rw[gC,tP,aQ (xs:=[.lst (ws.map SS),.int b]) (aM a (aM f rfl)) (uV (C:=C) h)];rfl
def Z4G{C:Af}{a:Ab Nat}{bs:Ab (Ab Nat)}(h:∀l∈a::bs,Ls l)(h1:1<=bs.length)(h2:bs.length<=2) :
  (fOr (fBI (λi j=>decide (i<j)) (fB1 bF (aA (aD 0) aF)) (kI 2)) (fOr (fBI (λi j=>decide (j<i)) (fB1 bF (aA (aD 0) aF)) (kI 3)) (fOr (cH (fB (aL (dF C) [] (aA (fSl (aD 0) cR (fP (kI 1))) (aA (fPw (kI 10) (kI 9)) aF))))) (cH (fB (aL (dF C) [] (aA (fSl (aD 0) (fP (kI 1)) cR) (aA (kI 2) aF)))))))) [oF (.lst ((a::bs).map SS))]=some (!okA (a::bs)):=by
 have n:fB1 bF (aA (aD 0) aF) [oF (.lst ((a::bs).map SS))]=some (.int ((a::bs).length:Int)):=uT rfl;have f:(a::bs).length=bs.length+1:=rfl;rw[orF (by rw[lF,n];show some (decide (((a::bs).length:Int)<2))=_;rw[Rh (by omega)]),orF (by rw[lF,n];show some (decide ((3:Int)<((a::bs).length:Int)))=_;rw[Rh (by omega)])];have p:=rX (C:=C) (ws:=[a]) (b:=1000000000) (λl f=>h l (by simp at f;simp[f])) (ac:=[oF (.lst ((a::bs).map SS))]) (fa:=fSl (aD 0) cR (fP (kI 1))) (by
  rw[Zdt];show(if flats ((a::bs).map SS)=true then some (D.lst (PD.cutD ((a::bs).map SS) none (some 1))) else none)=_;rw[if_pos (mX _)]
  match bs,h1,h2 with
  |[_],_,_=>rfl
  |[_,_],_,_=>rfl) (ZbL _)
 have o:=rX (C:=C) (ws:=bs) (b:=2) (λl f=>h l (by simp[f])) (ac:=[oF (.lst ((a::bs).map SS))]) (fa:=fSl (aD 0) (fP (kI 1)) cR) (iB rfl) (fb:=kI 2) rfl;rw[qD,p,o];unfold okA;show _=some (!([a].all (okB 1000000000)&&bs.all (okB 2)));cases [a].all (okB 1000000000)<;>rfl
def rD(h:∀l∈ws,Ls l):jY C [.lst (ws.map SS)]=some (cM ws):=by
 refine qF ?_;show Wp (nZ C [oF (.lst (ws.map SS))]) _;unfold nZ
 match ws,h with
 |[],h=>rfl
 |[a],h=>rfl
 |[a,b],h =>
  have c:=Z4G (C:=C) (a:=a) (bs:=[b]) h (by simp) (by simp);rw[show cM [a,b]=(if okA [a,b]=true then(if a=[48] then SS b else Lr "wire") else Lr "line") from rfl]
  cases n:okA [a,b] with
  |false=>rw[n]at c;unfold aJ rIf;rw[c];rfl
  |true =>
   rw[n]at c;refine sNo c ?_;have z:fEq (fX 0 0) (kS "0") [oF (.lst ([a,b].map SS))]=some (decide (a=[48])):=eqS oY (iL rfl);have c2:(fOr (fEq (fB1 bF (aA (aD 0) aF)) (kI 3)) (cH (fEq (fX 0 0) (kS "0")))) [oF (.lst ([a,b].map SS))]=some (!decide (a=[48])):=by
    rw[orF rfl,gC,z];rfl
   by_cases o:a=[48]
   .rw[Ri o]at c2;rw[if_pos rfl,if_pos o];exact sNo c2 rfl
   .rw[Rh o]at c2;rw[if_pos rfl,if_neg o];unfold aJ rIf;rw[c2];rfl
 |[a,b,c],h =>
  have f:=Z4G (C:=C) (a:=a) (bs:=[b,c]) h (by simp) (by simp);rw[show cM [a,b,c]=(if okA [a,b,c]=true then Lr "wire" else Lr "line") from rfl]
  cases n:okA [a,b,c] with
  |false=>rw[n]at f;unfold aJ rIf;rw[f];rfl
  |true =>
   rw[n]at f;refine sNo f ?_;rfl
 |a::b::c::d::r,h =>
  have p:fB1 bF (aA (aD 0) aF) [oF (.lst ((a::b::c::d::r).map SS))]=some (.int ((a::b::c::d::r).length:Int)):=uT rfl;have f:∀B,fOr (fBI (λi j=>decide (i<j)) (fB1 bF (aA (aD 0) aF)) (kI 2)) (fOr (fBI (λi j=>decide (j<i)) (fB1 bF (aA (aD 0) aF)) (kI 3)) B) [oF (.lst ((a::b::c::d::r).map SS))]=some true:=λB=>by
   rw[orF (by rw[lF,p];show some (decide (((a::b::c::d::r).length:Int)<2))=_;rw[Rh (by simp;omega)]),orT (by rw[lF,p];show some (decide ((3:Int)<((a::b::c::d::r).length:Int)))=_;rw[Ri (by simp;omega)])]
  unfold aJ rIf;rw[f];rfl
def zF(ws:Ab (Ab Nat)):(∃w∈ws,cM ws=SS w)\/cM ws=Lr "wire" \/ cM ws=Lr "line":=by
 match ws with
 |[]=>exact .inr (.inr rfl)
 |[a]=>exact .inr (.inr rfl)
 |[a,b] =>
  rw[show cM [a,b]=(if okA [a,b]=true then(if a=[48] then SS b else Lr "wire") else Lr "line") from rfl]
  split
  .split
   .exact .inl ⟨b,by simp,rfl⟩
   .exact .inr (.inl rfl)
  .exact .inr (.inr rfl)
 |[a,b,c] =>
  rw[show cM [a,b,c]=(if okA [a,b,c]=true then Lr "wire" else Lr "line") from rfl]
  split
  .exact .inr (.inl rfl)
  .exact .inr (.inr rfl)
 |a::b::c::d::r=>exact .inr (.inr rfl)
def hJ(cs:Ab (Ab Nat))(g:Ab Nat):D:=if okB 1000000000 g=true then(match cM cs with | .str s=>if g=[48] then .str s else Lr "wire" | d=>d) else Lr "line"
def rC{C:Af}{cs:Ab (Ab Nat)}{g:Ab Nat}(h:∀l∈cs,Ls l)(j:Ls g)(hc:cs.length=2\/cs.length=3):jX C [.lst ((cs++[g]).map SS)]=some (hJ cs g):=by
 refine qF ?_;show Wp (nY C [oF (.lst ((cs++[g]).map SS)),none]) _;unfold nY;have k1:∀x,fSl (aD 0) cR (fP (fC (.int (-1)))) [oF (.lst ((cs++[g]).map SS)),x]=some (.lst (cs.map SS)):=λx=>by
  rcases hc with hc|hc
  .match cs,hc with|[_,_],_=>rfl
  .match cs,hc with|[_,_,_],_=>rfl
 have k2:∀x,fSl (aD 0) (fP (fC (.int (-1)))) cR [oF (.lst ((cs++[g]).map SS)),x]=some (.lst ([g].map SS)):=λx=>by
  rcases hc with hc|hc
  .match cs,hc with|[_,_],_=>rfl
  .match cs,hc with|[_,_,_],_=>rfl
 have k3:∀x,fIx (aD 0) (fC (.int (-1))) [oF (.lst ((cs++[g]).map SS)),x]=some (SS g):=λx=>by
  rcases hc with hc|hc
  .match cs,hc with|[_,_],_=>rfl
  .match cs,hc with|[_,_,_],_=>rfl
 refine Z1f (aQ (xs:=[.lst (cs.map SS)]) (aM (k1 _) rfl) (rD (C:=C) h)) ?_;show aJ _ _ [oF (.lst ((cs++[g]).map SS)),oT (cM cs)]=_;have a:=rX (C:=C) (ws:=[g]) (b:=1000000000) (λl hl=>by simp at hl;rw[hl];exact j) (ac:=[oF (.lst ((cs++[g]).map SS)),oT (cM cs)]) (k2 _) (ZbL _);have n:[g].all (okB 1000000000)=okB 1000000000 g:=by simp
 rw[n]at a;unfold hJ;cases i:okB 1000000000 g with
 |false =>
  rw[i]at a;unfold aJ rIf;rw[a];rfl
 |true =>
  rw[i]at a;refine sNo a ?_;rw[if_pos rfl];have z:fEq (fIx (aD 0) (fC (.int (-1)))) (kS "0") [oF (.lst ((cs++[g]).map SS)),oT (cM cs)]=some (decide (g=[48])):=eqS oY (k3 _);rcases zF cs with⟨w,_,e⟩|e|e
  .rw[e]at z ⊢;have c2:fV (fB (Zae "str" (aD 1))) (cH (fEq (fIx (aD 0) (fC (.int (-1)))) (kS "0"))) [oF (.lst ((cs++[g]).map SS)),oT (SS w)]=some (!decide (g=[48])):=by
    rw[pN,gC,z];rfl
   by_cases f:g=[48]
   .rw[Ri f]at c2;refine sNo c2 ?_;show _=Res.ret (if g=[48] then SS w else _);rw[if_pos f];rfl
   .rw[Rh f]at c2;unfold aJ rIf;rw[c2];show _=Res.ret (if g=[48] then SS w else _);rw[if_neg f];rfl
  .rw[e]at z ⊢;exact sNo (by rw[pN];rfl) rfl
  .rw[e]at z ⊢;exact sNo (by rw[pN];rfl) rfl
def Z1i(n:Int):Ab (Ab Nat)->Bool
 |w::ws=>decide (kc w=some (ws.length:Int))&&ws.all (okB (bnd w n))
 |[]=>false
def Z8m{C:Af}{ws:Ab (Ab Nat)}{b:Int}(h:∀l∈ws,Ls l){ac:En}{fa fb:En->Aa D}(a:fa ac=some (.lst (ws.map SS)))(f:fb ac=some (.int b)):fB (aL (dF C) [] (aA fa (aA fb aF))) ac=some (ws.all (okB b)):=by
 rw[tP,aQ (xs:=[.lst (ws.map SS),.int b]) (aM a (aM f rfl)) (uV (C:=C) h)]
def S9{ws:Ab (Ab Nat)}{k:Int}{ac:En}{fa:En->Aa D}(a:fa ac=some (.lst (ws.map SS))):fEq (fB1 bF (aA fa aF)) (fC (.int k)) ac=some (decide ((ws.length:Int)=k)):=by
 rw[iW,uT a,gM];exact jI 7 _ _
def Z2p(h:A ac=some a)(f:a=true->B ac=some b):fV A B ac=some (a&&b):=by
 rw[pN,h];cases a with
 |false=>rfl
 |true=>rw[Bool.true_and];exact f rfl
def Zas(h:A ac=some a):fB (dH A) ac=some a:=by rw[tP,iT,h];rfl
def Zca(a:fa ac=some (SS w)):fIn fa (bO (aA (kS "and") (aA (kS "or") (aA (kS "xor") aF)))) ac=some (decide (w∈[Z3f,kOr,Z3e])):=by
 rw[U8,a];show inD (SS w) [.str "and",.str "or",.str "xor"]=_;rw[ZaK,ZcP,ZaG];exact K8 [Z3f,kOr,Z3e]
abbrev kA(w:Ab Nat)(ws:Ab (Ab Nat))(n:Int):En:=[oF (.lst ((w::ws).map SS)),oF (.int n)]
def P5{C:Af}{w:Ab Nat}{ws:Ab (Ab Nat)}{n:Int}(h:∀l∈ws,Ls l):lJ C [.lst ((w::ws).map SS),.int n]=some (.bl (Z1i n (w::ws))):=by
 refine qF ?_;show Wp (pI C (kA w ws n)) _;unfold pI;have i:∀(k:Ab Nat) (s:Str),s=mkS k->fEq (fIx (aD 0) (fC (.int 0))) (fC (.str s)) (kA w ws n)=some (decide (w=k)):=λk s hs=>eqS hs (iL rfl);have q:fSl (aD 0) (fP (fC (.int 1))) cR (kA w ws n)=some (.lst (ws.map SS)):=iB rfl;have c1:fOr (fEq (fIx (aD 0) (fC (.int 0))) (fC (.str "fix"))) (fEq (fIx (aD 0) (fC (.int 0))) (fC (.str "not"))) (kA w ws n)=some (decide (w=uW)||decide (w=K4)):=by
  rw[qD,i _ _ Z3P,i _ _ Z6J];cases decide (w=uW)<;>rfl
 have o:decide (((w::ws).length:Int)=2)=decide (ws.length=1):=by rw[decide_eq_decide,Qai];omega
 have p:decide (((w::ws).length:Int)=3)=decide (ws.length=2):=by rw[decide_eq_decide,Qai];omega
 rw[show Z1i n (w::ws)=(decide (kc w=some (ws.length:Int))&&ws.all (okB (bnd w n))) from rfl]
 cases b:decide (w=uW)||decide (w=K4) with
 |true =>
  rw[b]at c1;have y:fIx (bO (aA (fC (.int 2)) (aA (bD (aD 1)) aF))) (fB1 oV (aA (dH (fEq (fIx (aD 0) (fC (.int 0))) (fC (.str "not")))) aF)) (kA w ws n)=some (.int (bnd w n)):=by
   have u:fB1 oV (aA (dH (fEq (fIx (aD 0) (fC (.int 0))) (fC (.str "not")))) aF) (kA w ws n)=some (.int (if w=K4 then 1 else 0)):=by
    rw[cU (xs:=[.bl (decide (w=K4))]) (aM (by rw[iT,i _ _ Z6J];rfl) rfl) rfl];by_cases z:w=K4<;>simp[z]<;>rfl
   rw[jH,u];unfold bnd;by_cases z:w=uW
   .rw[if_pos z,if_neg (by rw[z];decide)];rfl
   .have j:w=K4:=by simpa[z]using b
    rw[if_neg z,if_pos j];rfl
  have v:dH (fV (fB (dH (fEq (fB1 bF (aA (aD 0) aF)) (fC (.int 2))))) (fB (aL (dF C) [] (aA (fSl (aD 0) (fP (fC (.int 1))) cR) (aA (fIx (bO (aA (fC (.int 2)) (aA (bD (aD 1)) aF))) (fB1 oV (aA (dH (fEq (fIx (aD 0) (fC (.int 0))) (fC (.str "not")))) aF))) aF))))) (kA w ws n)=some (.bl (decide (ws.length=1)&&ws.all (okB (bnd w n)))):=by
   rw[iT,Z2p (Zas (S9 (ws:=w::ws) rfl)) (λ_=>Z8m h q y),o];rfl
  have t:kc w=some 1:=by
   unfold kc;by_cases z:w=uW
   .rw[if_pos z]
   .have j:w=K4:=by simpa[z]using b
    rw[if_neg z,if_pos j]
  have dk:decide (kc w=some (ws.length:Int))=decide (ws.length=1):=by rw[t,decide_eq_decide];simp only[QaO];omega
  rw[dk];exact gX c1 (fH v rfl)
 |false =>
  rw[b]at c1;refine sNo c1 ?_;obtain⟨r,x⟩:w≠uW/\w≠K4:=by simpa using b
  have A:bnd w n=n:=if_neg r;have v:=Z2p (Zas (Zca (w:=w) (ac:=(kA w ws n)) (fa:=fIx (aD 0) (fC (.int 0))) (iL rfl))) (λ_=>Zas (Z2p (Zas (S9 (ws:=w::ws) (k:=3) (ac:=(kA w ws n)) (fa:=aD 0) rfl)) (λ_=>Z8m (C:=C) h q (show aD 1 (kA w ws n)=some (.int n) from rfl))))
  have dk:decide (kc w=some (ws.length:Int))=(decide (w∈[Z3f,kOr,Z3e])&&decide (ws.length=2)):=by
   unfold kc;rw[if_neg r,if_neg x];by_cases h3:w=Z3f
   .rw[if_pos h3,h3,QaU];simp;omega
   .by_cases a:w=kOr
    .rw[if_neg h3,if_pos a,a,QaU];simp;omega
    .by_cases f:w=Z3e
     .rw[if_neg h3,if_neg a,if_pos f,f,QaU];simp;omega
     .rw[if_neg h3,if_neg a,if_neg f];simp[h3,a,f]
  rw[dk,A];show aZ _ _=_;unfold aZ;rw[iT,v,p,Bool.and_assoc];rfl
def Z5O:Ab (Ab Nat)->Aa Int
 |[w,v]=>if (decide (w=kIns)&&okB 9 v)=true then some (dvI v) else none
 |_=>none
def Z1z(n:Int):Ab (Ab Nat)->Bool
 |w::ws=>decide (w=kOuts)&&(decide (1<=ws.length)&&decide (ws.length<=16))&&ws.all (okB n)
 |[]=>false
def U5(a:Ab (Ab Nat))(mid:Ab (Ab (Ab Nat)))(z:Ab (Ab Nat)):Prop:=∃n,Z5O a=some n/\(∀(i:Nat) g,mid[i]?=some g->Z1i (n+(i:Int)) g=true)/\Z1z (n+(mid.length:Int)) z=true
def orB(h:A ac=some a)(f:a=false->B ac=some b):fOr A B ac=some (a||b):=by
 rw[qD,h];cases a with
 |true=>rfl
 |false=>rw[Bool.false_or];exact f rfl
def xV(h:A ac=some a):cH A ac=some (!a):=by rw[gC,h];rfl
theorem Z4n:∀(ps:Ab (Ab (Ab Nat))),inD (.lst []) (LW ps)=some (decide ([]∈ps))
 |[]=>rfl
 |g::ps=>by
  have e:eqN 8 (.lst (g.map SS)) (.lst [])=some (decide (g=[])):=by cases g<;>rfl
  show inD (.lst []) (.lst (g.map SS)::LW ps)=_;unfold inD;rw[e,Z4n ps];simp only[QaO,Qab,Bool.decide_or];congr 1;exact decide_eq_decide.mpr eq_comm
def Ze4(a:fa ac=some (.lst (LW ps))):fB1 bF (aA fa aF) ac=some (.int (ps.length:Int)):=by
 rw[cU (xs:=[.lst (LW ps)]) (aM a rfl) (show bF [.lst (LW ps)]=some (.int (ps.length:Int)) by simp only[bF,LW,Qad])]
section
variable {a z:Ab (Ab Nat)}{mid:Ab (Ab (Ab Nat))}
def Ze9(x y:Aa (Bool×D)):fIx (aD 0) (fC (.int 0)) [oF (.lst (LW (a::mid++[z]))),x,y]=some (.lst (a.map SS)):=by
 rw[jH];exact nP _ _
def Zc1(x y:Aa (Bool×D)):fIx (aD 0) (fC (.int (-1))) [oF (.lst (LW (a::mid++[z]))),x,y]=some (.lst (z.map SS)):=by
 rw[jH];show atI (LW (a::mid++[z])) (-1)=_;rw[yO];exact Z2n _ _
def Zdc(x y:Aa (Bool×D)):Zad (aD 0) (fP (kI 1)) (fP (fC (.int (-1)))) [oF (.lst (LW (a::mid++[z]))),x,y]=some (.lst (LW mid)):=by
 show some (D.lst (PD.cutD (LW (a::mid++[z])) (some 1) (some (-1))))=_;rw[yO];congr 2;show PD.cutD (D.lst (a.map SS)::LW mid++LW [z]) (some 1) (some (-1))=_;unfold PD.cutD;generalize LW mid=ys;have f:(D.lst (a.map SS)::ys++LW [z]).length=ys.length+1+1:=by simp[LW]
 have b:HT.sIx (ys.length+1+1) (ys.length+1+1) (some (-1))=ys.length+1:=by
  show(if (-1:Int)<0 then(-1+((ys.length+1+1:Nat):Int)).toNat else min (-1:Int).toNat (ys.length+1+1))=_;rw[if_pos (by decide)];omega
 rw[f,Zbr,b];simp
end
def T7(h:Z5O a=some n):∃v,a=[kIns,v]/\okB 9 v=true/\n=dvI v:=by
 unfold Z5O at h;split at h
 .rename_i w v;split at h
  .rename_i b;rw[Qak]at b;cases h;exact⟨v,by rw[of_decide_eq_true b.1],b.2,rfl⟩
  .cases h
 .cases h
def Z0h(h:∀g∈a::mid++[z],∀w∈g,Ls w) :
  ∃b,iU C [.lst (LW (a::mid++[z]))]=some (.bl b)/\(b=true↔U5 a mid z):=by
 have Y:∀g∈mid,∀w∈g,Ls w:=λg A=>h g (by simp[A])
 suffices hs:Wp (rN C [oF (.lst (LW (a::mid++[z]))),none,none]) (λr=>∃b,r=.ret (.bl b)/\(b=true↔U5 a mid z)) by
  obtain⟨b,e,q⟩:=hs;exact⟨b,iC e,q⟩
 unfold rN;have B:¬U5 a mid z->∃b,Res.ret (D.bl false)=.ret (.bl b)/\(b=true↔U5 a mid z):=λhf=>⟨false,rfl,⟨λe=>(by cases e),λq=>absurd q hf⟩⟩;have l2:fBI (λi j=>decide (i<j)) (fB1 bF (aA (aD 0) aF)) (fC (.int 2)) [oF (.lst (LW (a::mid++[z]))),none,none]=some false:=by
  rw[lF,Ze4 (ps:=a::mid++[z]) rfl];show some (decide (((a::mid++[z]).length:Int)<2))=_;rw[Rh (by simp;omega)]
 have K:fIn (bO aF) (aD 0) [oF (.lst (LW (a::mid++[z]))),none,none]=some (decide ([]∈a::mid++[z])):=Z4n _;by_cases G:[]∈a::mid++[z]
 .rw[Ri G]at K;refine gX (orB l2 λ_=>orT K) (fH rfl (B λ⟨n,h1,h2,h3⟩=>?_));rcases Qaf.mp G with y|y
  .rcases Qab.mp y with y|y
   .rw[<- y]at h1;cases h1
   .obtain⟨i,hi⟩:=List.mem_iff_getElem?.mp y;cases h2 i _ hi
  .rw[<- Qaq.mp y]at h3;cases h3
 rw[Rh G]at K;obtain⟨w,o,rfl⟩:∃w o,a=w::o:=by
  cases a with
  |nil=>exact absurd (by simp) G
  |cons w o=>exact⟨w,o,rfl⟩
 obtain⟨u,f,rfl⟩:∃u f,z=u::f:=by
  cases z with
  |nil=>exact absurd (by simp) G
  |cons w o=>exact⟨w,o,rfl⟩
 have O:∀g∈mid,g≠[]:=λg A e=>G (by rw[<- e];simp[A]);have R:∀l∈o,Ls l:=λl F=>h (w::o) (by simp) l (by simp[F]);have hZ:∀l∈f,Ls l:=λl F=>h (u::f) (by simp) l (by simp[F]);have J:=λx y=>Ze9 (a:=w::o) (z:=u::f) (mid:=mid) x y;have I:=λx y=>Zc1 (a:=w::o) (z:=u::f) (mid:=mid) x y;have c1:=orB l2 λ_=>orB K λ_=>orB (xV (eqS ZaJ (iL (J none none)))) λ_=>xV (S9 (k:=2) (J none none));by_cases k1:¬(w=kIns/\o.length=1)
 .refine gX (c1.trans (congrArg some ?_)) (fH rfl (B λ⟨n,h1,_⟩=>?_))
  .by_cases hw:w=kIns
   .have:¬(((w::o).length:Int)=2):=λe=>k1 ⟨hw,by simp at e;omega⟩;rw[Ri hw,Rh this];rfl
   .rw[Rh hw];rfl
  .obtain⟨v,e,_⟩:=T7 h1;cases e;exact k1 ⟨rfl,rfl⟩
 obtain⟨rfl,F⟩:=Classical.not_not.mp k1;obtain⟨v,rfl⟩:∃v,o=[v]:=List.length_eq_one_iff.mp F;refine wNo (c1.trans (by rfl)) ?_;have b1:=rX (C:=C) (ws:=[v]) (b:=9) R (ac:=[oF (.lst (LW ((kIns::[v])::mid++[u::f]))),none,none]) (iB (J none none)) (fb:=fC (.int 9)) rfl;have S:fBI (λi j=>decide (i<j)) (fB1 bF (aA (fIx (aD 0) (fC (.int (-1)))) aF)) (fC (.int 2)) [oF (.lst (LW ((kIns::[v])::mid++[u::f]))),none,none]=some (decide (((u::f).length:Int)<2)):=by
  rw[lF,uT (I none none)];rfl
 have x2:fBI (λi j=>decide (j<i)) (fB1 bF (aA (fIx (aD 0) (fC (.int (-1)))) aF)) (fC (.int 17)) [oF (.lst (LW ((kIns::[v])::mid++[u::f]))),none,none]=some (decide ((17:Int)<((u::f).length:Int))):=by
  rw[lF,uT (I none none)];rfl
 have c2:=orB b1 λ_=>orB (xV (eqS Z6H (iL (I none none)))) λ_=>orB S λ_=>x2;by_cases k2:¬(okB 9 v=true/\u=kOuts/\1<=f.length/\f.length<=16)
 .refine gX (c2.trans (congrArg some ?_)) (fH rfl (B λ⟨n,h1,_,h3⟩=>?_))
  .by_cases E:okB 9 v=true
   .by_cases p2:u=kOuts
    .by_cases p3:1<=f.length
     .have p4:¬f.length<=16:=λe=>k2 ⟨E,p2,p3,e⟩;rw[Ri (show(17:Int)<((u::f).length:Int) by simp;omega)];simp
     .rw[Ri (show((u::f).length:Int)<2 by simp;omega)];simp
    .rw[Rh p2];simp
   .simp[E]
  .obtain⟨v',e,U,_⟩:=T7 h1;cases e;unfold Z1z at h3;simp only[Qak,Rj]at h3;exact k2 ⟨U,h3.1.1,h3.1.2.1,h3.1.2.2⟩
 obtain⟨E,rfl,p3,p4⟩:=Classical.not_not.mp k2;refine wNo (c2.trans (congrArg some ?_)) ?_
 .rw[Rh (show ¬(((kOuts::f).length:Int)<2) by simp;omega),Rh (show ¬((17:Int)<((kOuts::f).length:Int)) by simp;omega)];simp[E]
 have Z:okN v=true:=by unfold okB at E;rw[Qak]at E;exact E.1
 have N:Z5O [kIns,v]=some (dvI v):=if_pos (by rw[E];rfl);refine gW (d:=.int (dvI v)) (cU (xs:=[SS v]) (aM (by rw[jH,J];rfl) rfl) (Z4l Z)) ?_;show Wp (aJ _ _ [oF (.lst (LW ((kIns::[v])::mid++[kOuts::f]))),oT (.int (dvI v)),none]) _;refine ZcB (ds:=LW mid) (by rw[Z88,Zdc]) (λi ac=>∃x,ac=[oF (.lst (LW ((kIns::[v])::mid++[kOuts::f]))),oT (.int (dvI v+(i:Int))),x]/\∀(j:Nat) g,j<i->mid[j]?=some g->Z1i (dvI v+(j:Int)) g=true) ⟨none,by rw[show(dvI v+((0:Nat):Int))=dvI v by simp];rfl,λj g hj=>absurd hj (Nat.not_lt_zero _)⟩ ?_ ?_
 .rintro i d ac hd ⟨x,rfl,hr⟩;obtain⟨g,A,rfl⟩:=jV hd;have M:=QaE A;obtain⟨t,p,rfl⟩:∃t p,g=t::p:=by
   cases g with
   |nil=>exact absurd rfl (O _ M)
   |cons t p=>exact⟨t,p,rfl⟩
  refine⟨_,rfl,?_⟩;show Wp (aJ _ _ [oF (.lst (LW ((kIns::[v])::mid++[kOuts::f]))),oT (.int (dvI v+(i:Int))),oF (.lst ((t::p).map SS))]) _;have W:=P5 (C:=C) (w:=t) (ws:=p) (n:=dvI v+(i:Int)) λl F=>Y _ M l (by simp[F]);have L:cH (fB (aL (lJ C) [] (aA (aD 2) (aA (aD 1) aF)))) [oF (.lst (LW ((kIns::[v])::mid++[kOuts::f]))),oT (.int (dvI v+(i:Int))),oF (.lst ((t::p).map SS))]=some (! Z1i (dvI v+(i:Int)) (t::p)):=xV (by rw[tP,aQ (xs:=[.lst ((t::p).map SS),.int (dvI v+(i:Int))]) rfl W]);cases H:Z1i (dvI v+(i:Int)) (t::p) with
  |false =>
   rw[H]at L;refine gX L (fH rfl (B λ⟨n,h1,h2,_⟩=>?_));rw[N]at h1;cases h1;have:=h2 i _ A;rw[H]at this;cases this
  |true =>
   rw[H]at L;refine wNo L ?_;refine⟨some (false,.lst ((t::p).map SS)),?_,λj g' hj hg'=>?_⟩
   .rw[show dvI v+((i+1:Nat):Int)=dvI v+(i:Int)+1 by omega];rfl
   .by_cases P:j<i
    .exact hr j g' P hg'
    .obtain rfl:j=i:=by omega
     rw[A]at hg';cases hg';exact H
 .rintro env' ⟨x,rfl,hr⟩;have Q:(LW mid).length=mid.length:=by unfold LW;rw[Qad]
  rw[Q]at hr ⊢;have X:=uV (C:=C) (ws:=f) (b:=dvI v+(mid.length:Int)) hZ;refine Z2y (aQ (xs:=[.lst (f.map SS),.int (dvI v+(mid.length:Int))]) (aM (iB (I _ _)) (aM rfl rfl)) X) ⟨_,rfl,⟨λT=>⟨dvI v,N,λi g A=>hr i g (Qah.mp A).1 A,?_⟩,λ⟨n,h1,_,h3⟩=>?_⟩⟩
  .show(decide (kOuts=kOuts)&&(decide (1<=f.length)&&decide (f.length<=16))&&f.all (okB (dvI v+(mid.length:Int))))=true;rw[T,Ri p3,Ri p4];rfl
  .rw[N]at h1;cases h1;unfold Z1z at h3;rw[Qak]at h3;exact h3.2
def tot(ws:Ab (Ab Nat)):Nat:=(ws.map λw=>w.length+1).sum
def iA(a b:Ab (Ab Nat)):tot (a++b)=tot a+tot b:=by unfold tot;rw[QaT,List.sum_append]
def A8(w:Ab Nat):tot [w]=w.length+1:=by simp[tot]
def Z4W(h:∀l∈ls,tot l<=n):∀l∈fF ls w,tot l<=n+(w.length+1):=by
 intro l a;unfold fF at a;split at a
 .rcases Qaf.mp a with z|z
  .exact Nat.le_add_right_of_le (h l z)
  .rw[Qaq.mp z];simp[tot]
 .rcases Qaf.mp a with z|z
  .exact Nat.le_add_right_of_le (h l (List.dropLast_subset _ z))
  .rw[Qaq.mp z,iA,A8];have b:tot (ls.getLastD [])<=n:=by
    cases hq:ls.getLast? with
    |none=>rw[Qbq,hq];simp[tot]
    |some g=>rw[Qbq,hq];exact h g (List.mem_of_getLast? hq)
   omega
theorem U4:∀(ws:Ab (Ab Nat)) (n:Nat) (ls:Ab (Ab (Ab Nat))),(∀l∈ls,tot l<=n)->∀l∈ws.foldl fF ls,tot l<=n+tot ws
 |[],n,ls,h=>by intro l a;exact Qay (h l a) (Nat.le_add_right _ _)
 |w::ws,n,ls,h=>by
  intro l a;have:=U4 ws (n+(w.length+1)) (fF ls w) (Z4W h) l a;have e:tot (w::ws)=(w.length+1)+tot ws:=by simp[tot]
  omega
def Z7I(ws:Ab (Ab Nat)):(jn ws).length<=tot ws:=by
 cases ws with
 |nil=>simp[jn]
 |cons w ws =>
  show(w++ws.flatMap λv=>32::v).length<=_;have:∀us:Ab (Ab Nat),(us.flatMap λv=>32::v).length=tot us:=λus=>by
   induction us with
   |nil=>rfl
   |cons u us ih=>rw[List.flatMap_cons,Qaj,ih];simp[tot]
  rw[Qaj,this];simp[tot]
def Wg(w:Ab Nat):Prop:=(∀c∈w,c<128/\c≠32)/\w≠[]
def Zc6(h:∀w∈ws,Wg w)(b:tot ws<=400):Ls (jn ws):=by
 refine⟨λc hc=>?_,Qay (Z7I ws) b⟩;cases ws with
 |nil=>cases hc
 |cons w ws =>
  rcases Qaf.mp hc with z|z
  .exact((h w Qag).1 c z).1
  .obtain⟨v,f,a⟩:=List.mem_flatMap.mp z;rcases Qab.mp a with rfl|q
   .decide
   .exact((h v (Qaa _ f)).1 c q).1
def Z0i(h:∀w∈ws,Wg w)(a:ws≠[]):Wds (jn ws)=ws:=by
 cases ws with
 |nil=>exact absurd rfl a
 |cons w ws=>exact yT (λz=>((h w Qag).1 32 z).2 rfl) λv hv z=>((h v (Qaa _ hv)).1 32 z).2 rfl
def Zde(h:∀w∈a,Wg w):Z1M (jn a)=Z5O a:=by
 by_cases b:a=[]
 .subst b;rfl
 .unfold Z1M Z5O;rw[Z0i h b]
def ZaL(h:∀w∈a,Wg w):xL n (jn a)=Z1i n a:=by
 by_cases b:a=[]
 .subst b;rfl
 .unfold xL Z1i;rw[Z0i h b]
def ZbV(h:∀w∈a,Wg w):G7 n (jn a)=Z1z n a:=by
 by_cases b:a=[]
 .subst b;rfl
 .unfold G7 Z1z;rw[Z0i h b]
def Z83(h:∀g∈a::mid++[z],∀w∈g,Wg w):Z4y (jn a) (mid.map jn) (jn z)↔U5 a mid z:=by
 unfold Z4y U5;rw[Zde (h a (by simp)),Qad];refine exists_congr λn=>and_congr_right λ_=>?_;rw[ZbV (h z (by simp))];refine and_congr_left λ_=>⟨λq i g b=>?_,λq i l hl=>?_⟩
 .have:=q i (jn g) (by rw[Qax,b];rfl)
  rwa [ZaL (h g (by simp[QaE b]))]at this
 .rw[Qax]at hl;cases b:mid[i]? with
  |none=>rw[b]at hl;cases hl
  |some g =>
   rw[b]at hl;cases hl;rw[ZaL (h g (by simp[QaE b]))];exact q i g b
theorem Z04:∀{α:Type}{f:α->D}(xs:Ab α),(∀x,pln (f x)=true)->pln.plns (xs.map f)=true
 |_,f,[],_=>rfl
 |_,f,x::xs,h=>by show(pln (f x)&&pln.plns (xs.map f))=true;rw[h,Z04 xs h];rfl
def Z9z{C:Af}{n:Int}{ls:Ab (Ab Nat)}{a:Ab Int}:pln (Z9O C n (ls.map P3) a)=true:=by
 show(pln (.int n)&&(pln.plns (ls.map P3)&&(pln.plns (a.map D.int)&&true)))=true;rw[Z04 ls λl=>?_,Z04 a λ_=>rfl]
 .rfl
 .unfold P3;split
  .rename_i w ws e;show(true&&pln.plns ((ws.map dvI).map D.int))=true;rw[Z04 _ λ_=>rfl];rfl
  .rfl
def Z7x{C CE:Af}{ws:Ab (Ab Nat)}(N:ws≠[])(h:∀w∈ws,Wg w)(o:ws.length<=61)(O:tot ws<=400) :
  ∃b d,iU C [.lst (LW (P6 ws))]=some (.bl b)/\pD C CE [.lst ((P6 ws).map λl=>SS (jn l))]=some d/\(b=true->pln d=true)/\(b=false->d=.exc CE):=by
 have H:=wL (P:=Wg) ws 0 [[]] h (λl o=>by rw[Qaq.mp o];exact⟨λv hv=>(by cases hv),by simp⟩);have F:=U4 ws 0 [[]] (λl o=>by rw[Qaq.mp o];simp[tot]);have j:=sY ws [[]];have A:=M1 ws (ls:=[[]]) (by simp);simp only[QaG]at j;unfold P6;generalize ws.foldl fF [[]]=G at *
 have p:∀g∈G,∀w∈g,Wg w:=λg f=>(H g f).1;have y:∀g∈G,tot g<=400:=λg f=>by have:=F g f;omega
 have u:∀g∈G,∀w∈g,Ls w:=λg f w hw=>by
  refine⟨λc hc=>((p g f w hw).1 c hc).1,?_⟩;have h1:w.length+1<=tot g:=by
   obtain⟨s,t,rfl⟩:=List.append_of_mem hw;rw[iA,show w::t=[w]++t from rfl,iA,A8];omega
  have:=y g f;omega
 have i:∀g∈G,Ls (jn g):=λg f=>Zc6 (p g f) (y g f)
 match G,A with
 |[a],_=>exact⟨false,.exc CE,rfl,rfl,λe=>(by cases e),λ_=>rfl⟩
 |a::b::r,_ =>
  obtain⟨mid,z,e⟩:∃mid z,b::r=mid++[z]:=by
   rcases List.eq_nil_or_concat (b::r)with q|⟨m,z,q⟩
   .cases q
   .exact⟨m,z,by rw[q,List.concat_eq_append]⟩
  rw[e]at p u i j ⊢;rw[show a::(mid++[z])=a::mid++[z] from rfl]at p u i j ⊢
  obtain⟨K,I,E⟩:=Z0h (C:=C) u;have B:mid.length<=60:=by simp at j;omega
  obtain⟨d,L,J,M⟩:=Z97 (C:=C) (CE:=CE) (a:=jn a) (z:=jn z) (mid:=mid.map jn) (i a (by simp)) (λl o=>by
   obtain⟨g,f,rfl⟩:=Qa1.mp o;exact i g (by simp[f])) (i z (by simp)) (by rw[Qad];exact B)
  refine⟨K,d,I,?_,λx=>?_,λx=>?_⟩
  .rw[<- L];simp;rfl
  .obtain⟨n,_,hd⟩:=J ((Z83 p).mpr (E.mp x));rw[hd];exact Z9z
  .exact M λq=>by have:=E.mpr ((Z83 p).mp q);rw[x]at this;cases this
def rY(h:dW C CW [c,fd,.int g]=some d):fG C CW [c,.tup [.str "give",fd,.int g]]=some d:=by
 refine iC ?_;show kL C CW [oF c,oF (.tup [.str "give",fd,.int g])]=_;unfold kL;have a:fEq (fIx (aD 1) (fC (.int 0))) (fC (.str "give")) [oF c,oF (.tup [.str "give",fd,.int g])]=some true:=by
  show eqN 8 (.str "give") (.str "give")=_;rw[eN,beq_self_eq_true]
 unfold aJ rIf;rw[a];dsimp only;rw[Z3R (aQ (xs:=[c,fd,.int g]) rfl h)]
def pR(h:eG C CW [c,fd]=some d):fG C CW [c,.tup [.str "tells",fd]]=some d:=by
 refine iC ?_;show kL C CW [oF c,oF (.tup [.str "tells",fd])]=_;unfold kL;have a:fEq (fIx (aD 1) (fC (.int 0))) (fC (.str "give")) [oF c,oF (.tup [.str "tells",fd])]=some false:=by
  show eqN 8 (.str "tells") (.str "give")=_;rw[eN,show((Str.ofString "tells")==(Str.ofString "give"))=false by decide +kernel]
 have b:fEq (fIx (aD 1) (fC (.int 0))) (fC (.str "tells")) [oF c,oF (.tup [.str "tells",fd])]=some true:=by
  show eqN 8 (.str "tells") (.str "tells")=_;rw[eN,beq_self_eq_true]
 refine sNo a ?_;unfold aJ rIf;rw[b];dsimp only;rw[Z3R (aQ (xs:=[c,fd]) rfl h)]
def cQ(CD:Af)(c:D):D:=.obj CD ["circuit"] [c]
def Z8S{C CL CE CW CD a:Af}{l:Ab Nat}{ls:D}{b c:D}(i:bU C CL [SS l]=some (.tup [.str "new",ls]))(h:pD C CE [ls]=some c)(f:∀C,c ≠ .exc C)(hp:pln c=true) :
  pX C CL CE CW CD a (cQ CD b) [SS l]=some (.str "ok",cQ CD c):=by
 have c1:aL (bU C CL) [] (aA (aD 1) aF) [oF (.fn a [] []),oF (SS l),none]=some (.tup [.str "new",ls]):=aQ (xs:=[SS l]) rfl i;refine sI ?_;show uA C CL CE CW CD a [oF (.fn a [] []),oF (SS l),none] [cQ CD b]=_;unfold uA;refine uB (e:=[oF (.fn a [] []),oF (SS l),oT (.tup [.str "new",ls])]) (w1:=[cQ CD b]) ?_ ?_
 .rw[qP c1 (λC e=>by cases e)];refine sQ ?_;unfold gS bJ;rw[eJ c1 (λC e=>by cases e)];rfl
 refine Zdm ?_ ?_
 .show eqN 8 (.str "new") (.str "new")=_;rw[eN,beq_self_eq_true]
 have c2:aL (pD C CE) [] (aA (fIx (aD 2) (fC (.int 1))) aF) [oF (.fn a [] []),oF (SS l),oT (.tup [.str "new",ls])]=some c:=aQ (xs:=[ls]) rfl h;refine uB (e:=[oF (.fn a [] []),oF (SS l),oT (.tup [.str "new",ls])]) (w1:=[cQ CD c]) ?_ ?_
 .rw[qP c2 f];refine sQ (Z70 (d:=c) (ns:=["circuit"]) (ds:=[b]) (o:=false) ?_ (by decide) hp rfl ?_)
  .unfold gPl;rw[eJ c2 f];rfl
  .simp[oH]
 .exact Z1D (Zcb rfl) (λC e=>by cases e)
abbrev wS(a:Af)(l:Ab Nat)(k:Str)(xs:Ab D):En:=[oF (.fn a [] []),oF (SS l),oT (.tup (.str k::xs))]
def Z8T{C CL CE CW CD a:Af}{l:Ab Nat}{k:Str}{xs:Ab D}{c d:D}(n:bU C CL [SS l]=some (.tup (.str k::xs)))(h1:(k==Str.ofString "new")=false)(h2:(k==Str.ofString "lean")=false)(i:fG C CW [c,.tup (.str k::xs)]=some d) :
  pX C CL CE CW CD a (cQ CD c) [SS l]=some (d,cQ CD c):=by
 have c1:aL (bU C CL) [] (aA (aD 1) aF) [oF (.fn a [] []),oF (SS l),none]=some (.tup (.str k::xs)):=aQ (xs:=[SS l]) rfl n;refine sI ?_;show uA C CL CE CW CD a [oF (.fn a [] []),oF (SS l),none] [cQ CD c]=_;unfold uA;refine uB (e:=(wS a l k xs)) (w1:=[cQ CD c]) ?_ ?_
 .rw[qP c1 (λC e=>by cases e)];refine sQ ?_;unfold gS bJ;rw[eJ c1 (λC e=>by cases e)];rfl
 have b:fIx (aD 2) (fC (.int 0)) (wS a l k xs)=some (.str k):=by
  rw[jH];exact nP _ _
 refine gNo ?_ ?_
 .rw[iW,b,gM];dsimp only;rw[eN,h1]
 refine gNo ?_ ?_
 .rw[iW,b,gM];dsimp only;rw[eN,h2]
 have j:Z1A a (wS a l k xs) [cQ CD c]=[oF (cQ CD c),oF (SS l),oT (.tup (.str k::xs))]:=by
  simp[Z1A,opn,SS]
 have h:cZ CD "circuit" (aD 0) [oF (cQ CD c),oF (SS l),oT (.tup (.str k::xs))]=some c:=by
  simp[cZ,cQ,QaB]
 have c2:aL (fG C CW) [] (aA (cZ CD "circuit" (aD 0)) (aA (aD 2) aF)) (Z1A a (wS a l k xs) [cQ CD c])=some d:=by
  rw[j];exact aQ (xs:=[c,.tup (.str k::xs)]) (aM h rfl) i
 by_cases f:∃C,d=.exc C
 .obtain⟨o,rfl⟩:=f;exact E9 c2 rfl
 .have hd:∀C,d ≠ .exc C:=λC e=>f ⟨C,e⟩;rw[qP c2 hd];refine Z1D (Z6Y ?_) hd;unfold gOp;show(fNX (aL (fG C CW) [] (aA (cZ CD "circuit" (aD 0)) (aA (aD 2) aF))) (Z1A a (wS a l k xs) [cQ CD c])).map _=_;rw[eJ c2 hd];rfl
def Z8R{C CL CE CW CD a:Af}{l:Ab Nat}{c d c':D}(h:pX C CL CE CW CD a (cQ CD c) [SS l]=some (d,cQ CD c'))(hd:∀C,d ≠ .exc C)(b:flat d=true) :
  kJ C CL CE CW CD a (cQ CD c) [SS l]=some (d,cQ CD c'):=by
 refine sI ?_;show rM C CL CE CW CD a [oF (.fn a [] []),oF (SS l),none,none,none,none] [cQ CD c]=_;unfold rM;refine zC (d:=.non) rfl (zC (d:=.non) rfl ?_);refine uB (Z5f (xs:=[SS l]) (o:=false) rfl (by decide +kernel) rfl h hd) ?_;refine Zea ?_;show rIf _ _ _ [oF (.fn a [] []),oF (SS l),oT .non,oT d,none,none]=_;unfold rIf;show aZ (bD (aD 3)) [oF (.fn a [] []),oF (SS l),oT .non,oT d,none,none]=_;refine iY ?_;rw[lR];show(if flat d=true then some d else none)=_;rw[if_pos b]
def Z3g{CL CE CW X:Af}{f b a:Bool}{ac:En}{fa:En->Aa D}(h:fa ac=some (.exc X))(l:CL≠CE)(j:CL≠CW)(i:CE≠CW):(X=CL->tO [(CL,f),(CE,b),(CW,a)] fa ac=some (.bl f))/\(X=CE->tO [(CL,f),(CE,b),(CW,a)] fa ac=some (.bl b))/\(X=CW->tO [(CL,f),(CE,b),(CW,a)] fa ac=some (.bl a)):=by
 unfold tO;rw[h];refine⟨λe=>?_,λe=>?_,λe=>?_⟩
 .subst e;simp
 .subst e;simp[QaR,l]
 .subst e;simp[QaR,j,i]
abbrev Z0D(a:Af)(l:Ab Nat)(X:Af)(t1:Bool)(t2:Bool)(t3:Bool):En:=[oF (.fn a [] []),oF (SS l),oT (.exc X),oT .non,none,oT (.lst [.bl t1,.bl t2,.bl t3,.bl false,.bl false])]
def xG{C CL CE CW CD a:Af}{l:Ab Nat}{c d c':D}{X:Af}{t1 t2 t3:Bool}{nm:Str}(h:pX C CL CE CW CD a (cQ CD c) [SS l]=some (.exc X,cQ CD c'))(p:X∈[CL,CE,CW])
  (hi:∀{j i f:Bool}{ac:En},aD 2 ac=some (.exc X)->tO [(CL,j),(CE,i),(CW,f)] (aD 2) ac=some (.bl (t1&&j||t2&&i||t3&&f)))
  (hs:(t1,t2,t3,nm)=(true,false,false,Str.ofString "line")\/(t1,t2,t3,nm)=(false,true,false,Str.ofString "circuit")\/(t1,t2,t3,nm)=(false,false,true,Str.ofString "wire")) :
  kJ C CL CE CW CD a (cQ CD c) [SS l]=some (.lst [.str nm],cQ CD c'):=by
 refine sI ?_;show rM C CL CE CW CD a [oF (.fn a [] []),oF (SS l),none,none,none,none] [cQ CD c]=_;unfold rM;refine zC (d:=.non) rfl (zC (d:=.non) rfl ?_);refine uB (Z5g (xs:=[SS l]) (o:=false) rfl (by decide +kernel) rfl h p (by decide) (by simp) (by simp)) ?_;show dC _ _ [oF (.fn a [] []),oF (SS l),oT (.exc X),oT .non,none,none] _=_;refine Za7 (e:=[oF (.fn a [] []),oF (SS l),oT (.exc X),oT .non,none,none]) rfl ?_;refine zC (d:=.lst [.bl t1,.bl t2,.bl t3]) ?_ ?_
 .rw[Z0y,aM (hi (by rfl)) (aM (hi (by rfl)) (aM (hi (by rfl)) rfl))];simp
 show dC _ _ [oF (.fn a [] []),oF (SS l),oT (.exc X),oT .non,none,oT (.lst [.bl t1,.bl t2,.bl t3])] _=_;have n:bO (aA (tO [(CL,false),(CE,false),(CW,false)] (aD 2)) (aA (tO [(CL,false),(CE,false),(CW,false)] (aD 2)) aF)) [oF (.fn a [] []),oF (SS l),oT (.exc X),oT .non,none,oT (.lst [.bl t1,.bl t2,.bl t3])]=some (.lst [.bl false,.bl false]):=by
  rw[Z0y,aM (hi (by rfl)) (aM (hi (by rfl)) rfl)];simp
 refine Za7 (e:=(Z0D a l X t1 t2 t3)) ?_ ?_
 .unfold gE;rw[n];rfl
 have q:tO [(CL,true),(CE,true),(CW,true)] (aD 2) (Z0D a l X t1 t2 t3)=some (.bl true):=by
  rw[hi (by rfl)];rcases hs with z|z|z<;>(cases z;rfl)
 refine Za7 (e:=(Z0D a l X t1 t2 t3)) ?_ ?_
 .unfold rIf;rw[qD,gC (b:=fB _),tP,q];rcases hs with z|z|z<;>(cases z;rfl)
 refine Zcb ?_;rcases hs with z|z|z<;>(cases z;rfl)
def D7{C CL CE CW CD a:Af}{l:Ab Nat}{c c':D}{X:Af}{nm:Str}(f:CL≠CE)(b:CL≠CW)(i:CE≠CW)(h:pX C CL CE CW CD a (cQ CD c) [SS l]=some (.exc X,cQ CD c'))
  (hs:X=CL/\nm=Str.ofString "line" \/ X=CE/\nm=Str.ofString "circuit" \/ X=CW/\nm=Str.ofString "wire"):kJ C CL CE CW CD a (cQ CD c) [SS l]=some (.lst [.str nm],cQ CD c'):=by
 rcases hs with⟨rfl,rfl⟩|⟨rfl,rfl⟩|⟨rfl,rfl⟩
 .exact xG (d:=.non) (t1:=true) (t2:=false) (t3:=false) h (by simp) (λh=>by rw[(Z3g h f b i).1 rfl];simp) (.inl rfl)
 .exact xG (d:=.non) (t1:=false) (t2:=true) (t3:=false) h (by simp) (λh=>by rw[(Z3g h f b i).2.1 rfl];simp) (.inr (.inl rfl))
 .exact xG (d:=.non) (t1:=false) (t2:=false) (t3:=true) h (by simp) (λh=>by rw[(Z3g h f b i).2.2 rfl];simp) (.inr (.inr rfl))
def Zbj{C CL CE CW CD a X:Af}{l:Ab Nat}{c:D}(b:bU C CL [SS l]=some (.exc X)):pX C CL CE CW CD a (cQ CD c) [SS l]=some (.exc X,cQ CD c):=by
 have c1:aL (bU C CL) [] (aA (aD 1) aF) [oF (.fn a [] []),oF (SS l),none]=some (.exc X):=aQ (xs:=[SS l]) rfl b;refine sI ?_;show uA C CL CE CW CD a [oF (.fn a [] []),oF (SS l),none] [cQ CD c]=_;unfold uA dC;rw[E9 c1 rfl]
def Z6F{C CL CE CW CD a X:Af}{l:Ab Nat}{ls:D}{b:D}(h:bU C CL [SS l]=some (.tup [.str "new",ls]))(f:pD C CE [ls]=some (.exc X)) :
  pX C CL CE CW CD a (cQ CD b) [SS l]=some (.exc X,cQ CD b):=by
 have c1:aL (bU C CL) [] (aA (aD 1) aF) [oF (.fn a [] []),oF (SS l),none]=some (.tup [.str "new",ls]):=aQ (xs:=[SS l]) rfl h;refine sI ?_;show uA C CL CE CW CD a [oF (.fn a [] []),oF (SS l),none] [cQ CD b]=_;unfold uA;refine uB (e:=[oF (.fn a [] []),oF (SS l),oT (.tup [.str "new",ls])]) (w1:=[cQ CD b]) ?_ ?_
 .rw[qP c1 (λC e=>by cases e)];refine sQ ?_;unfold gS bJ;rw[eJ c1 (λC e=>by cases e)];rfl
 refine Zdm ?_ ?_
 .show eqN 8 (.str "new") (.str "new")=_;rw[eN,beq_self_eq_true]
 have c2:aL (pD C CE) [] (aA (fIx (aD 2) (fC (.int 1))) aF) [oF (.fn a [] []),oF (SS l),oT (.tup [.str "new",ls])]=some (.exc X):=aQ (xs:=[ls]) rfl f;unfold dC;rw[E9 c2 rfl]
theorem Z24:∀(l:Ab Nat) (a:Nat),(∀c∈l,dig c=true)->l.foldl (λa c=>a*10+(c-48)) a<(a+1)*10^l.length
 |[],a,_=>by simp
 |c::r,a,h=>by
  have h1:=Z24 r (a*10+(c-48)) λx hx=>h x (Qaa _ hx);have hc:48<=c/\c<=57:=by have:=h c Qag;unfold dig at this;exact of_decide_eq_true this
  rw[List.foldl_cons,Qai,Nat.pow_succ];refine Qaw h1 ?_;rw[Nat.mul_comm (10^r.length) 10,<- Nat.mul_assoc];exact Nat.mul_le_mul_right _ (by omega)
def Z9K(l:Ab Nat):okB 1000000000 l=okN l:=by
 unfold okB;cases h:okN l with
 |false=>rfl
 |true =>
  rw[Bool.true_and];unfold okN at h;simp only[Qak,Qaz]at h;have b:l.length<=9:=of_decide_eq_true h.1.1.2;have f:=Z24 l 0 h.2;have hp:10^l.length<=10^9:=Nat.pow_le_pow_right (by decide) b;refine Ri ?_;unfold dvI PySem.NumText.digitsVal;have:l.foldl (λa c=>a*10+(c-48)) 0<1000000000:=by omega
  exact Int.ofNat_lt.mpr this
def Zag(C:Int->Int->Prop)[∀i j,Decidable (C i j)](g:Int->Int->D)(fa fb:En->Aa D):En->Aa D:=λac=>match fa ac,fb ac with
 |some (.int i),some (.int j)=>if C i j then some (g i j) else none
 |_,_=>none
def U7(C:Int->Int->Prop)[∀i j,Decidable (C i j)](g:Int->Int->D):fI2 C g=Zag C g:=by
 show @Zag C (λ_ _=>Classical.propDecidable _) g=_;exact congrArg (λz=>@Zag C z g) (Subsingleton.elim _ _)
instance (i j:Int):Decidable (IntMulOk i j):=by unfold IntMulOk;infer_instance
instance (i j:Int):Decidable (Z2u i j):=by unfold Z2u;infer_instance
def c1(C:Af):D:=Z0K C 0 [.fix 0] [0]
def w1(b:Int):D:=.tup [.str "wire",.int 0,.int b]
section
variable {C CL CE CW CD a:Af}{fa:En->Aa D}{ac:En}
def fI(h:fa ac=some (c1 C)):cZ C "ins" fa ac=some (.int 0):=Z4w h
def fR(h:fa ac=some (c1 C)):cZ C "rows" fa ac=some (.lst [.tup [.str "fix",.int 0]]):=Z1W h
def fO(h:fa ac=some (c1 C)):cZ C "outs" fa ac=some (.lst [.int 0]):=Z1X h
def c2(C:Af):D:=Z0K C 0 [.fix 0,.fix 1] [0]
def gI(h:fa ac=some (c2 C)):cZ C "ins" fa ac=some (.int 0):=Z4w h
def gR(h:fa ac=some (c2 C)):cZ C "rows" fa ac=some (.lst [.tup [.str "fix",.int 0],.tup [.str "fix",.int 1]]):=Z1W h
def gO(h:fa ac=some (c2 C)):cZ C "outs" fa ac=some (.lst [.int 0]):=Z1X h
local macro_rules | `(tactic| simp! [$xs,*]) => `(tactic| simp [cA, eU, aJ, bJ, rIf, aZ, eZ, rP, gtN, gtT, fz, fz1, aD, fC, aL, aA, aF, dZ, fI, fR, fO, LI, fI0, fBI, fIx, bO, tN, bD, flat, flats, fB1, sB1, kD, lA, bF, cX, dQ, qH, fTT, vE, nB, U7, gI, gR, gO, nR, Z6X, qQ, noX, fNX, rOr, dT, qS, $xs,*])
def Z6o:eS C [c1 C,.int 0]=some (.lst []):=by
 simp! [eS,pH]
 kernel_rfl
def Zcx:iJ C [c1 C,.int 0]=some (.lst [.int 1]):=by
 simp! [iJ,qB,fV,fEq]
 kernel_rfl
def Z6p:kH C [c1 C]=some (.lst [.int 0]):=by
 simp! [kH,L5,F4,oP,Z2r,Z6o]
 kernel_rfl
def Z3F:fK C [c1 C]=some (.lst [w1 1]):=by
 simp! [fK,wJ,Z6o,Z6p,Zcx]
 kernel_rfl
def ZdL:fT C [c1 C]=some (.lst [.non,w1 1]):=by
 simp! [fT,nM,qG,Z3F]
def f3(f:D)(v:Int):Prop:=f=.non/\v=0\/f=w1 0/\v=0\/f=w1 1/\v=1
def ZdK:lL C [.tup [.str "fix",.int 0],.lst [],.int 1]=some (.int 0):=by
 simp only[lL,wH,U7]
 kernel_rfl
variable {f:D}{v:Int}
def ZdF(h:f3 f v):sS C [.int 0,.int 0,.int 1,f]=some (.int v):=by
 simp only[sS,U1,U7];rcases h with⟨rfl,rfl⟩|⟨rfl,rfl⟩|⟨rfl,rfl⟩<;>kernel_rfl
def ZdI(h:f3 f v):pE C [.tup [.str "fix",.int 0],.int 0,.lst [],.int 1,f]=some (.lst []):=by
 rcases h with⟨rfl,rfl⟩|⟨rfl,rfl⟩|⟨rfl,rfl⟩<;>kernel_rfl
def ZaB(h:f3 f v):vZ C [c1 C,.lst [],.int 1,f]=some (.lst [.int v]):=by
 simp! [vZ,Z4r,ZdK,ZdF h,ZdI h]
def Zaz(h:f3 f v):oJ C [c1 C,f]=some (.lst [.int v]):=by
 have h1:fJ C [.int 0]=some (.int 1):=by
  simp only[fJ,pL,U7]
  kernel_rfl
 have h2:fZ C [.int 0]=some (.lst []):=by kernel_rfl
 simp! [oJ,Z1Q,ZaB h,h1,h2]
def Zcy:oM C [c1 C,.lst [.int v]]=some (.lst [.int v]):=by
 simp! [oM,U3,nP]
def Z2v(h:f3 f v):dY C [c1 C,f]=some (.lst [.int v]):=by
 simp! [dY,wF,Zaz h,Zcy]
def ZdG(h:f3 f v):mS C [c1 C,.int 0,f]=some (.lst [.int v]):=by
 have h1:mU C [c1 C,.int 0,f]=some (.lst [.int v]):=by
  simp! [mU,L9,ZaB h]
 simp! [mS,L4,h1,Zcy]
def ZdJ(b:Int)(h:b=0\/b=1):iH C [c1 C,w1 b]=some (if b=0 then .non else .int 0):=by
 have a:f3 (w1 b) b:=by rcases h with rfl|rfl;exact .inr (.inl ⟨rfl,rfl⟩);exact .inr (.inr ⟨rfl,rfl⟩)
 have h1:iQ C [c1 C,.lst [w1 b]]=some (.lst [.int b]):=by
  simp! [iQ,uX,Z2v a,Z2v (.inl ⟨rfl,rfl⟩)];rcases h with rfl|rfl<;>kernel_rfl
 have h2:flat (w1 b)=true:=rfl;simp! [iH,qA,xX,U0,h1,h2,nP];rcases h with rfl|rfl<;>kernel_rfl
def Zb5:Z0e C [c1 C]=some (.lst []):=by
 have h1:iQ C [c1 C,.lst [w1 1]]=some (.lst [.int 1]):=by
  simp! [iQ,uX,Z2v (.inr (.inr ⟨rfl,rfl⟩)),Z2v (.inl ⟨rfl,rfl⟩)]
  kernel_rfl
 simp! [Z0e,Z7W,Z3F,h1]
 kernel_rfl
def Zcr:eS C [c2 C,.int 0]=some (.lst []):=by
 simp! [eS,pH]
 kernel_rfl
def Zb3:kH C [c2 C]=some (.lst [.int 0]):=by
 simp! [kH,L5,F4,oP,Z2r,Zcr,Z0w,Z5m,P4,Z36,show List.range 2=[0,1] from rfl]
 kernel_rfl
def ZdC(x:D):Z0b C [.tup [.str "fix",.int 0],x]=some (.tup [.str "fix",.int 0]):=by kernel_rfl
def Z8x:jE C [c2 C]=some (c1 C):=by
 simp! [jE,rL,Zb3,nP,F4,oP,ZdC]
 kernel_rfl
def ZdB:iF C [c1 C,.non]=some (c1 C):=by
 have h1:fJ C [.int 0]=some (.int 1):=by
  simp only[fJ,pL,U7]
  kernel_rfl
 have h2:fZ C [.int 0]=some (.lst []):=by kernel_rfl
 have h3:gK C [.int 0,.lst [.tup [.str "fix",.int 0],.tup [.str "fix",.int 1]],.lst [.int 0]]=some (c2 C):=by kernel_rfl
 simp! [iF,pZ,Zaz (.inl ⟨rfl,rfl⟩),Z6p,h1,h2,Z4B,Z1Y,Z3q,Z2t,oP,cH,Z0w,nP,Z1Z,Z8x,h3,Z36,vD,lC,show Z27 [(Sum.inl 0,0),(Sum.inl 1,1)]=[(Sum.inl 0,.int 0),(Sum.inl 1,.int 1)] by kernel_rfl]
def ZdD:lM C [c1 C]=some .non:=by
 simp! [lM,wI,Z2v (.inl ⟨rfl,rfl⟩),Z2v (.inr (.inr ⟨rfl,rfl⟩)),Z3F]
 kernel_rfl
def Zb4:Z0c C [c1 C]=some (c1 C):=by
 simp! [Z0c,Z7U,ZdB,ZdD,Z2P (n:=1),whD,Z2P]
def Zb7(h:f3 f v):bZ C CW [c1 C,f]=some .non:=by
 rcases h with⟨rfl,rfl⟩|⟨rfl,rfl⟩|⟨rfl,rfl⟩
 .simp! [bZ,gL]
 .simp! [bZ,gL,w1,Z4J,nP,fV,fEq]
  kernel_rfl
 .simp! [bZ,gL,w1,Z4J,nP,fV,fEq]
  kernel_rfl
def ZaA(h:1<=n):bZ C CW [c1 C,.tup (.str k :: .int n::xs)]=some (.exc CW):=by
 simp! [bZ,gL,Z4J,h]
def Zcw(h:0<=b):bZ C CW [c1 C,.tup [.str "leg",.int 0,.int b,.int c]]=some (.exc CW):=by
 simp! [bZ,gL,Z4J,nP,Zdx,h,fV,fEq,eN,Z6o]
def Zb6:dG C CW [c1 C,.int n]=some (if n=0 then .non else .exc CW):=by
 simp! [dG,wG,cH,fEq,Zag,jI];by_cases h:n=0<;>simp! [h]
def Zct(h:f3 f v){n:Int}:dW C CW [c1 C,f,.int n]=some (if n=0 then .str (Z5B v) else .exc CW):=by
 by_cases a:n=0
 .subst a;simp! [dW,lO,Zb7 h,Zb6,ZdG h,qC];rcases h with⟨rfl,rfl⟩|⟨rfl,rfl⟩|⟨rfl,rfl⟩<;>kernel_rfl
 .simp! [dW,lO,Zb7 h,Zb6,a]
def Zcs(h:bZ C CW [c1 C,f]=some (.exc CW)):dW C CW [c1 C,f,.int n]=some (.exc CW):=by
 simp! [dW,lO,h]
def Zcv(h:b=0\/b=1):eG C CW [c1 C,w1 b]=some (.str (if b=0 then "none" else "0")):=by
 have a:f3 (w1 b) b:=by rcases h with rfl|rfl;exact .inr (.inl ⟨rfl,rfl⟩);exact .inr (.inr ⟨rfl,rfl⟩)
 simp! [eG,nX,Zb7 a,ZdJ b h];rcases h with rfl|rfl<;>kernel_rfl
def Zcu(h:bZ C CW [c1 C,f]=some (.exc CW)):eG C CW [c1 C,f]=some (.exc CW):=by
 simp! [eG,nX,h]
def Zbp:Str.ofString "faults" = mkS iK:=by decide +kernel
def Zbo:Str.ofString "idle" = mkS nL:=by decide +kernel
def Zbm:Str.ofString "lean" = mkS mV:=by decide +kernel
def x_an:fG C CW [c1 C,.tup [.str "faults"]]=some (.str "1")/\fG C CW [c1 C,.tup [.str "idle"]]=some (.str "none"):=by
 have h:jF C [.lst []]=some (.str "none"):=by kernel_rfl
 simp! [fG,kL,Z3F,Zb5,nP,h,fEq,eN,Zbp,Zbo,xJ,vM,Z6K,nJ,iK,nL,tZ,kTells,jG]
 kernel_rfl
def ZdE:pX C CL CE CW CD a (cQ CD (c1 C)) [SS mV]=some (.str "1",cQ CD (c1 C)):=by
 have h:bU C CL [SS mV]=some (.tup [.str "lean"]):=by kernel_rfl
 have e:pln (c1 C)=true:=rfl;unfold SS at h ⊢;generalize mkS mV=z at h ⊢;simp! [pX,uA,E5,dC,uN,gS,qR,zZ,fEq,nP,h,eN,Zbm,Z6L,nJ,mV,yB,zV,F0,gOp,E8,opn,Z1A,cZ,cQ,Zb4,e,oH,QaB];simp! [c1,Z0K]
 kernel_rfl
end
def Z6C(l:Ab Nat):jn (Wds l)=l/\∀w∈Wds l,32∉w:=by
 induction l with
 |nil=>exact⟨rfl,by simp[Wds,dD]⟩
 |cons x xs ih =>
  obtain⟨h,t,e⟩:=jM 32 xs;unfold Wds at ih ⊢;rw[e]at ih;unfold dD;rw[e];by_cases a:x=32
  .rw[if_pos a,a];exact⟨congrArg (32 :: ·) ih.1,λw hw=>(Qab.mp hw).elim (λz=>by simp[z]) (ih.2 w)⟩
  .rw[if_neg a];refine⟨congrArg (x :: ·) ih.1,λw hw=>(Qab.mp hw).elim (λz=>?_) λz=>ih.2 w (Qaa _ z)⟩;rw[z];have:=ih.2 h Qag;simp[this,Ne.symm a]
structure LN(l w:List Nat)(ws:List (List Nat)):Prop where
 e:Wds l=w::ws
 j:l=jn (w::ws)
 L:Ls l
 h:∀v∈w::ws,Ls v
 g:∀v∈w::ws,v≠[]->Wg v
 n:ws.length<=60
 t:tot ws<=400
def Zdd(h:Ls l)(hc:l.count 32<=60):∃w ws,LN l w ws:=by
 obtain⟨w,ws,e⟩:=jM 32 l;have ⟨h1,h2⟩:=Z6C l;have f:Wds l=w::ws:=e;rw[f]at h1 h2;have j:∀us:Ab (Ab Nat),(∀v∈us,32∉v)->(us.flatMap λv=>32::v).length=tot us/\(us.flatMap λv=>32::v).count 32=us.length:=λus=>by
  induction us with
  |nil=>intro _;exact⟨rfl,rfl⟩
  |cons u us ih =>
   intro i;obtain⟨a,b⟩:=ih λv hv=>i v (Qaa _ hv);have:=List.count_eq_zero.mpr (i u Qag);rw[List.flatMap_cons,Qaj,QaX,a,b,List.count_cons_self,this];exact⟨by simp[tot],by rw[Qai];omega⟩
 obtain⟨a,b⟩:=j ws λv hv=>h2 v (Qaa _ hv);have q:l=w++ws.flatMap λv=>32::v:=h1.symm;have hw:=Z0X h;rw[f]at hw;refine⟨w,ws,f,h1.symm,h,hw,λv hv hn=>⟨λc hc=>⟨(hw v hv).1 c hc,λz=>h2 v hv (z ▸ hc)⟩,hn⟩,?_,?_⟩
 .rw[q,QaX,b]at hc;omega
 .have:=h.2;rw[q,Qaj,a]at this;omega
def nK(hs:s=mkS k):lkT (([.inr s,.inl m],v)::r) [.inr (mkS w),.inl n]=if w=k/\n=m then some v else lkT r [.inr (mkS w),.inl n]:=by
 have e:([.inr s,.inl m]:Ab Key)=[.inr (mkS w),.inl n]↔w=k/\n=m:=by
  rw[hs];constructor
  .intro z;simp only[List.cons.injEq,Sum.inr.injEq,Sum.inl.injEq,and_true]at z;have:=congrArg (λs:Str=>s.cps.toList) z.1;simp only[cP]at this;exact⟨this.symm,z.2.symm⟩
  .rintro⟨rfl,rfl⟩;rfl
 unfold lkT;rw[QaR];by_cases h:w=k/\n=m
 .rw[Ri (e.mpr h),if_pos h];rfl
 .rw[Rh (mt e.mp h),if_neg h]
def FK:Ab (Ab Nat×Int):=[(tZ,1),(rE,3),(Z1K,4),(iK,0),(nL,0),(kTells,2),(kTells,3),(mV,0)]
def Z4i(h:(w,n)∉FK):lkT FORMS [.inr (mkS w),.inl n]=none:=by
 have q:∀p∈FK,¬(w=p.1/\n=p.2):=λp hp z=>h (by rw[z.1,z.2];exact hp);rw[nK xJ,if_neg (q (tZ,1) (by decide)),nK A9,if_neg (q (rE,3) (by decide)),nK Z3O,if_neg (q (Z1K,4) (by decide)),nK Zbp,if_neg (q (iK,0) (by decide)),nK Zbo,if_neg (q (nL,0) (by decide)),nK vM,if_neg (q (kTells,2) (by decide)),nK vM,if_neg (q (kTells,3) (by decide)),nK Zbm,if_neg (q (mV,0) (by decide))];rfl
def wB(e:c ac=some b)(h1:b=true->Wp (aJ g k ac) λr=>r=.ret d1)(h2:b=false->Wp (k ac) λr=>r=.ret d2):Wp (aJ (rIf c g aX) k ac) λr=>r=.ret (bif b then d1 else d2):=by
 cases b with
 |true=>exact gX e (h1 rfl)
 |false=>exact wNo e (h2 rfl)
def zO(h:g ac=.ret d):aJ g k ac=.ret d:=by unfold aJ;rw[h]
def Z6I:Str.ofString "1" = mkS [49]:=by decide +kernel
def W9:D->D
 | .str s=>.str (if s=mkS [49] then "0" else "none")
 |d=>d
section
variable {C CL:Af}{l w:Ab Nat}{ws:Ab (Ab Nat)}
abbrev wR(l:Ab Nat)(w:Ab Nat)(ws:Ab (Ab Nat)):En:=[oF (SS l),oT (.lst ((w::ws).map SS)),oT (.lst (ws.map SS)),none]
def oN(k:LN l w ws){nw:Bool}{nd:D}(y:w=yB->[]∉w::ws->ws≠[]->iU C [.lst (LW (P6 ws))]=some (.bl nw))(hd:[]∉w::ws->ws≠[]->w=jG->jW C [.lst (ws.map SS)]=some nd) :
  fS C [SS l]=some (bif decide ([]∈w::ws)||(decide ((ws.length:Int)=0) && !decide (w∈[iK,nL,mV])) then Lr "line"
   else bif decide (w=yB) then(bif nw then .str "ok" else Lr "circuit")
   else bif decide (w=tZ)&&decide ((ws.length:Int)=1) then hJ [[48],[48]] (ws.headD [])
   else bif (decide (w=rE)&&decide ((ws.length:Int)=3))||(decide (w=Z1K)&&decide ((ws.length:Int)=4)) then hJ ws.dropLast (ws.getLastD [])
   else bif decide (w=kTells) then W9 (cM ws)
   else bif decide (w=jG) then nd
   else bif decide ((ws.length:Int)=0) then .str (if w=nL then "none" else "1") else Lr "line"):=by
 have j:∀v∈ws,Ls v:=λv a=>k.h v (Qaa _ a);refine qF ?_;show Wp (Z0s C [oF (SS l),none,none,none]) _;unfold Z0s;refine gW (qL k.L rfl) ?_;rw[k.e];refine gW (d:=.lst (ws.map SS)) (iB rfl) ?_;show Wp (aJ _ _ (wR l w ws)) _;have b:∀{s:Str}{z:Ab Nat},s=mkS z->fEq (fIx (aD 1) (fC (.int 0))) (fC (.str s)) (wR l w ws)=some (decide (w=z)):=λhs=>eqS hs (iL (ws:=ws) rfl);have f:∀n:Int,fEq (fB1 bF (aA (aD 2) aF)) (fC (.int n)) (wR l w ws)=some (decide ((ws.length:Int)=n)):=λn=>S9 rfl;have x:fIn (fIx (aD 1) (fC (.int 0))) (bO (aA (fC (.str "faults")) (aA (fC (.str "idle")) (aA (fC (.str "lean")) aF)))) (wR l w ws)=some (decide (w∈[iK,nL,mV])):=by
  rw[U8,iL (w:=w) (ws:=ws) rfl];show inD (SS w) [.str "faults",.str "idle",.str "lean"]=_;rw[Zbp,Zbo,Zbm];exact K8 [iK,nL,mV]
 refine wB (orB (Z23 (ws:=w::ws) rfl) λ_=>Z2p (f 0) λ_=>xV x) (λ_=>fH rfl rfl) λh1=>?_;have t:[]∉w::ws:=λz=>by rw[Ri z]at h1;cases h1
 have o:w=yB\/w=jG->ws≠[]:=λe z=>by subst z;rcases e with rfl|rfl<;>exact absurd h1 (by decide)
 refine wB (b Z6L) (λh2=>?_) λh2=>?_
 .have B:=Z3d (C:=C) (ws:=ws) (by have:=k.n;omega);have q:fB1 oV (aA (aL (iU C) [] (aA (aL (sT C) [] (aA (aD 2) aF)) aF)) aF) (wR l w ws)=some (.int (if nw then 1 else 0)):=cU (xs:=[.bl nw]) (aM (aQ (xs:=[.lst (LW (P6 ws))]) (aM (aQ (xs:=[.lst (ws.map SS)]) rfl B) rfl) (y (of_decide_eq_true h2) t (o (.inl (of_decide_eq_true h2))))) rfl) rfl;show aJ _ _ _=_;unfold aJ uM;rw[q];cases nw<;>rfl
 refine wB (Z2p (b xJ) λ_=>f 1) (λh3=>?_) λh3=>?_
 .obtain⟨g,rfl⟩:∃g,ws=[g]:=List.length_eq_one_iff.mp (by simp at h3;omega);refine fH (aQ (xs:=[.lst (([[48],[48]]++[g]).map SS)]) (aM ?_ rfl) (rC (λv a=>by simp at a;rw[a];exact⟨by decide,by decide⟩) (j g (by simp)) (.inl rfl))) rfl;show some (D.lst [.str "0",.str "0",SS g])=_;rw[oY];rfl
 refine wB (orB (Z2p (b A9) λ_=>f 3) λ_=>Z2p (b Z3O) λ_=>f 4) (λi=>?_) λi=>?_
 .obtain⟨cs,g,rfl,hc⟩:∃cs g,ws=cs++[g]/\(cs.length=2\/cs.length=3):=by
   rcases List.eq_nil_or_concat ws with z|⟨cs,g,z⟩
   .rw[z]at i;simp at i
   .refine⟨cs,g,by rw[z,List.concat_eq_append],?_⟩;rw[z]at i;simp at i;omega
  rw[List.dropLast_concat,List.getLastD_concat];exact fH (aQ (xs:=[.lst ((cs++[g]).map SS)]) rfl (rC (λv a=>j v (by simp[a])) (j g (by simp)) hc)) rfl
 refine wB (b vM) (λu=>?_) λu=>?_
 .refine zO (Z1f (aQ (xs:=[.lst (ws.map SS)]) rfl (rD j)) ?_);show uM _ _ [oF (SS l),oT (.lst ((w::ws).map SS)),oT (.lst (ws.map SS)),oT (cM ws)]=_;rcases zF ws with⟨v,_,e⟩|e|e
  .rw[e];have q:=eqS (ac:=[oF (SS l),oT (.lst ((w::ws).map SS)),oT (.lst (ws.map SS)),oT (SS v)]) (fa:=aD 3) (w:=v) Z6I rfl;have A:W9 (SS v)=.str (if v=[49] then "0" else "none"):=by
    show D.str (if mkS v=mkS [49] then "0" else "none")=_;by_cases a:v=[49]
    .rw[a,if_pos rfl,if_pos rfl]
    .rw[if_neg a,if_neg λz=>a (by rw[<- cP v,z,cP])]
   rw[A];unfold uM gB gB gB;rw[lR,jH,cU (xs:=[.bl (decide (v=[49]))]) (aM (by rw[iT,q];rfl) rfl) rfl];by_cases a:v=[49]
   .rw[Ri a,if_pos a];rfl
   .rw[Rh a,if_neg a];rfl
  .rw[e];kernel_rfl
  .rw[e];kernel_rfl
 refine wB (b Z6K) (λp=>?_) λp=>?_
 .exact fH (aQ (xs:=[.lst (ws.map SS)]) rfl (hd t (o (.inr (of_decide_eq_true p))) (of_decide_eq_true p))) rfl
 refine wB (f 0) (λr=>?_) λr=>rfl;obtain rfl:ws=[]:=QaM.mp (by have:=of_decide_eq_true r;omega);have:w∈[iK,nL,mV]:=Classical.byContradiction λz=>by rw[Rh z]at h1;simp at h1
 simp only[Qab,Qa6,or_false]at this;rcases this with rfl|rfl|rfl<;>rfl
def fD(ns:Ab Int):D:=.tup (.str (if ns.length=2 then "wire" else "leg")::ns.map D.int)
def Tl(w:Ab Nat)(ns:Ab Int)(nu:D):Prop :=
 (w=tZ/\∃n,ns=[n]/\nu=.tup [.str "give",.non,.int n]) \/
 ((w=rE\/w=Z1K)/\∃as g,ns=as++[g]/\(as.length=2\/as.length=3)/\nu=.tup [.str "give",fD as,.int g]) \/
 (w=kTells/\ns.length<=9/\nu=.tup [.str "tells",fD ns])
def Q7(k:LN l w ws){nd nu:D}(p:[]∉w::ws->w=jG->hG C CL [.lst (ws.map SS)]=some nd)(t:[]∉w::ws->w≠yB->w≠jG->cF C CL [.lst ((w::ws).map SS)]=some (.exc CL)/\nu=.exc CL\/∃ns,cF C CL [.lst ((w::ws).map SS)]=some (LI ns)/\Tl w ns nu) :
  bU C CL [SS l]=some (bif decide ([]∈w::ws) then .exc CL else bif decide (w=yB) then(if ws=[] then .exc CL else .tup [.str "new",.lst ((P6 ws).map λl=>SS (jn l))]) else bif decide (w=jG) then nd else nu):=by
 refine qF ?_;show Wp (nV C CL [oF (SS l),none,none]) _;unfold nV;refine gW (qL k.L rfl) ?_;rw[k.e];show Wp (aJ _ _ [oF (SS l),oT (.lst ((w::ws).map SS)),none]) _;have b:∀{s:Str}{z:Ab Nat}{x:Aa (Bool×D)},s=mkS z->fEq (fIx (aD 1) (fC (.int 0))) (fC (.str s)) [oF (SS l),oT (.lst ((w::ws).map SS)),x]=some (decide (w=z)):=λhs=>eqS hs (iL (ws:=ws) rfl);refine wB (Z23 (ws:=w::ws) rfl) (λ_=>rfl) λi=>?_;have i:[]∉w::ws:=of_decide_eq_false i;refine wB (b Z6L) (λh1=>?_) λh1=>?_
 .by_cases j:ws=[]
  .rw[if_pos j];refine zO (gF (aQ (xs:=[.lst (ws.map SS)]) (aM (iB rfl) rfl) ?_) rfl);rw[j];rfl
  .rw[if_neg j];have u:∀v∈ws,v.length<=400:=λv hv=>(k.h v (Qaa _ hv)).2;have c:=aQ (fs:=aA (fSl (aD 1) (fP (fC (.int 1))) cR) aF) (ac:=[oF (SS l),oT (.lst ((w::ws).map SS)),none]) (xs:=[.lst (ws.map SS)]) (dds:=[]) (aM (iB rfl) rfl) (yL (C:=C) (CL:=CL) j u (by have:=k.n;omega));refine zO ?_;rw[iD c (λC e=>by cases e),iY (d:=.tup [.str "new",.lst ((P6 ws).map λl=>SS (jn l))]) (by rw[Z3s,aM (d:=.str "new") rfl (aM (eJ c (λC e=>by cases e)) rfl)];rfl)];rfl
 refine wB (b Z6K) (λh2=>?_) λh2=>?_
 .exact zO (Z3R (aQ (xs:=[.lst (ws.map SS)]) (aM (iB rfl) rfl) (p i (of_decide_eq_true h2))))
 rcases t i (of_decide_eq_false h1) (of_decide_eq_false h2)with⟨o,rfl⟩|⟨ns,o,y⟩
 .exact zO (gF (aQ (xs:=[.lst ((w::ws).map SS)]) rfl o) rfl)
 have c:=aQ (fs:=aA (aD 1) aF) (ac:=[oF (SS l),oT (.lst ((w::ws).map SS)),none]) (xs:=[.lst ((w::ws).map SS)]) (dds:=[]) rfl o;refine Z52 (env':=[oF (SS l),oT (.lst ((w::ws).map SS)),oT (LI ns)]) ?_ ?_
 .rw[iD c (λC e=>by cases e)];unfold bJ;rw[eJ c (λC e=>by cases e)];rfl
 rcases y with⟨rfl,n,rfl,rfl⟩|⟨hw,f,g,rfl,a,rfl⟩|⟨rfl,a,rfl⟩
 .exact oB (Z90 (b xJ) rfl) λC e=>by cases e
 .refine oB (sNo ((b xJ).trans (by rcases hw with rfl|rfl<;>rfl)) (Z90 ((orB (b A9) λ_=>b Z3O).trans (by rcases hw with rfl|rfl<;>rfl)) (zO (iY ?_)))) λC e=>by cases e
  have q:fSl (aD 2) cR (fP (fC (.int (-1)))) [oF (SS l),oT (.lst ((w::ws).map SS)),oT (LI (f++[g]))]=some (LI f):=by
   rcases a with a|a
   .match f,a with|[_,_],_=>rfl
   .match f,a with|[_,_,_],_=>rfl
  have r:bD (fIx (aD 2) (fC (.int (-1)))) [oF (SS l),oT (.lst ((w::ws).map SS)),oT (LI (f++[g]))]=some (.int g):=by
   rcases a with a|a
   .match f,a with|[_,_],_=>rfl
   .match f,a with|[_,_,_],_=>rfl
  rw[Z3s,aM (d:=.str "give") rfl (aM (aQ (xs:=[LI f]) (aM q rfl) (zE (by omega))) (aM r rfl))];rfl
 .refine oB (sNo (b xJ) (sNo (orB (b A9) λ_=>b Z3O) (Z90 (b vM) (zO (iY ?_))))) λC e=>by cases e
  rw[Z3s,aM (d:=.str "tells") rfl (aM (aQ (xs:=[LI ns]) rfl (zE (by omega))) rfl)];rfl
end
abbrev Pw:=Ab (Ab Nat×Ab Nat)
def pw(ps:Pw):Ab (Ab Nat):=ps.flatMap λp=>[p.1,p.2]
def xP(ps:Pw):(pw ps).length=2*ps.length:=by
 induction ps with
 |nil=>rfl
 |cons p ps ih=>show(pw ps).length+1+1=_;rw[ih,Qai];omega
theorem ZaP:∀(n:Nat) (ws:Ab (Ab Nat)),ws.length=2*n->∃ps,ws=pw ps
 |0,ws,h=>⟨[],QaM.mp h⟩
 |n+1,a::b::ws,h=>by
  obtain⟨ps,rfl⟩:=ZaP n ws (by simp at h;omega);exact⟨(a,b)::ps,rfl⟩
 |n+1,[a],h=>by simp at h;omega
def Z48(i:Nat)(hi:i<2)(he:aD 0 ac=some (.lst ((pw ps).map SS)))(a:fl ac=some (if i=0 then none else some 1)) :
  mY (aD 0) fl (fP (kI 2)) ac=some (.lst ((ps.map λp=>if i=0 then p.1 else p.2).map SS)):=by
 have e:(pw ps).map SS=(ps.map λp=>(SS p.1,SS p.2)).flatMap λq=>[q.1,q.2]:=by
  unfold pw;rw[List.flatMap_map,List.map_flatMap];rfl
 have l:((pw ps).map SS).length=2*(ps.map λp=>(SS p.1,SS p.2)).length:=by rw[Qad,Qad,xP]
 unfold mY;rw[he,a];show(if flats ((pw ps).map SS)=true/\some (2:Int)≠some 0 then some (D.lst ((pkI _ (some 2) ((pw ps).map SS).length).filterMap (((pw ps).map SS)[·]?))) else none)=_;rw[if_pos ⟨mX _,by decide⟩,l,e,ZbM i hi,Qbc,Qbc];congr 3;funext p;show(if i=0 then SS p.1 else SS p.2)=SS _;split<;>rfl
def lY(c:Nat):Bool:=decide (c=48\/c=49)
def Ze6(c:Nat):inF (.str ⟨#[c]⟩) (.str "01")=some (lY c):=by
 show some (!(Builtin.Str.occurrences (Str.ofString "01") ⟨#[c]⟩ 0 (Str.ofString "01").length 1).isEmpty)=_;rw[PySem.StrLaws.found_one,show(Str.ofString "01").cps.toList=[48,49] by decide +kernel];congr 1;unfold lY;rw[QaU];simp
def Z34(ps:Pw):D:=bif !(ps.all λp=>okN p.1) then Lr "line" else bif !(ps.all λp=>p.2.all lY) then Lr "line" else bif !(ps.all λp=>decide (p.1=[48])&&decide (p.2.length=1)) then Lr "wire" else bif decide ([48]∈ps.map Prod.snd)&&decide ([49]∈ps.map Prod.snd) then .str "none" else .str (if [49]∈ps.map Prod.snd then "0 1" else "good")
section
variable {C a:Af}{ps:Pw}
def inW{k:Ab Nat}{s:Str}{ws:Ab (Ab Nat)}{ac:En}{fa:En->Aa D}(hs:s=mkS k)(a:fa ac=some (.lst (ws.map SS))):fIn (fC (.str s)) fa ac=some (decide (k∈ws)):=by
 rw[U8,a,gM,hs];exact K8 ws
def Z4o(a:fa ac=some (.str ⟨#[c]⟩)):fIn fa (fC (.str "01")) ac=some (lY c):=by
 rw[U8,a,gM];exact Ze6 c
abbrev wQ(ps:Pw)(v:Ab Nat):En:=[oF (.lst ((pw ps).map SS)),oF (.lst ((ps.map Prod.snd).map SS)),oF (SS v)]
abbrev Z0C(ps:Pw)(x:Aa (Bool×D)):En:=[oF (.lst ((pw ps).map SS)),oF (.lst ((ps.map Prod.snd).map SS)),x]
def K0(t:∀p∈ps,Ls p.1/\Ls p.2)(u:ps≠[])(E:ps.length<=200):jW C [.lst ((pw ps).map SS)]=some (Z34 ps):=by
 have hp:0<ps.length:=List.length_pos_iff.mpr u;have h1:∀x y:Aa (Bool×D),mY (aD 0) cR (fP (fC (.int 2))) [oF (.lst ((pw ps).map SS)),x,y]=some (.lst ((ps.map Prod.fst).map SS)):=λx y=>Z48 0 (by decide) rfl rfl;have B:∀v∈ps.map Prod.fst,Ls v:=λv f=>by obtain⟨p,hp,rfl⟩:=Qa1.mp f;exact(t p hp).1
 have q:∀v∈ps.map Prod.snd,Ls v:=λv f=>by obtain⟨p,hp,rfl⟩:=Qa1.mp f;exact(t p hp).2
 refine qF ?_;show Wp (hV C [oF (.lst ((pw ps).map SS)),none,none]) _;unfold hV;have w:fEq (fI2 (λ_ j=>0<j) (λi j=>.int (i%j)) (fB1 bF (aA (aD 0) aF)) (fC (.int 2))) (fC (.int 1)) [oF (.lst ((pw ps).map SS)),none,none]=some false:=by
  rw[iW,dO (uT (ws:=pw ps) rfl) (gM (d:=.int 2)) (show(0:Int)<2 by decide),gM,xP];dsimp only;rw[jI,Rh (by omega)]
 unfold Z34;refine wB ((orB (S9 (ws:=pw ps) rfl) λ_=>orB w λ_=>rX B (h1 _ _) (ZbL _)).trans (congrArg some ?_)) (λ_=>fH rfl rfl) λ_=>?_
 .rw[xP,Rh (by omega),List.all_map];show(false||(false || !(ps.all λp=>okB 1000000000 p.1)))=_;simp only[Z9K,Bool.false_or]
 refine gW (d:=.lst ((ps.map Prod.snd).map SS)) (Z48 1 (by decide) rfl rfl) ?_;show Wp (aJ _ _ [oF (.lst ((pw ps).map SS)),oT (.lst ((ps.map Prod.snd).map SS)),none]) _;refine Z1g (ds:=(ps.map Prod.snd).map SS) rfl (λi ac=>∃x,ac=(Z0C ps x)/\((ps.map Prod.snd).take i).all (λv=>v.all lY)=true) ⟨none,rfl,rfl⟩ ?_ ?_
 .rintro i d ac hd ⟨x,rfl,ha⟩;obtain⟨v,f,rfl⟩:=jV hd;have o:=q v (QaE f);refine⟨_,rfl,?_⟩;have c:fBI (λi j=>decide (j<i)) (fB1 bF (aA (cX [] (oQ (aD 2)) (cH (fIn (aD 0) (fC (.str "01")))) (bD (aD 0))) aF)) (fC (.int 0)) (wQ ps v)=some (!v.all lY):=by
   have e:=lQ (fr:=[]) (fc:=cH (fIn (aD 0) (fC (.str "01")))) (fe:=bD (aD 0)) (λc:Nat=>D.str ⟨#[c]⟩) (λc:Nat=>D.str ⟨#[c]⟩) (λc=>! lY c) (Z0x o (ac:=(wQ ps v)) (fa:=aD 2) rfl) (by have:=o.2;omega) (λc _=>xV (Z4o rfl)) (λc _ _=>rfl);rw[lF,cU (aM e rfl) (show bF [_]=some (.int _) from rfl),gM]
   simp only[Qad];congr 1;rw[QaU];simp[List.length_pos_iff_exists_mem]
  cases h:v.all lY with
  |false =>
   right;left;refine⟨Lr "line",?_,?_⟩
   .show rIf _ _ _ (wQ ps v)=_;unfold rIf;rw[c,h];rfl
   .have:=lI (p:=λv=>v.all lY) f h;rw[List.all_map]at this;rw[show(ps.all λp=>p.2.all lY)=false from this]
    rfl
  |true =>
   left;refine⟨(wQ ps v),.inl ?_,_,rfl,oU f ha h⟩;show rIf _ _ _ (wQ ps v)=_;unfold rIf;rw[c,h];rfl
 rintro env' ⟨x,rfl,ha⟩;rw[Qad,Qa0,List.all_map]at ha;rw[show(ps.all λp=>p.2.all lY)=true from ha]
 show Wp (aJ _ _ (Z0C ps x)) λr=>r=.ret (bif !(ps.all λp=>decide (p.1=[48])&&decide (p.2.length=1)) then _ else _);have f1:=lQ (fr:=[]) (fe:=bD (aD 0)) SS SS (λv=>!decide (v=[48])) (xs:=ps.map Prod.fst) (src:=dZ (mY (aD 0) cR (fP (fC (.int 2))))) (fc:=cH (fEq (aD 0) (fC (.str "0")))) (wO (h1 (some (false,.lst ((ps.map Prod.snd).map SS))) x)) (by rw[Qad];omega) (λv _=>xV (eqS oY rfl)) (λv _ _=>rfl);have A:=lQ (fr:=[]) (fe:=bD (aD 0)) SS SS (λv=>!decide ((v.length:Int)=1)) (xs:=ps.map Prod.snd) (ac:=(Z0C ps x)) (src:=dZ (aD 1)) (fc:=cH (fEq (fB1 bF (aA (aD 0) aF)) (fC (.int 1)))) rfl (by rw[Qad];omega) (λv f=>xV (by rw[iW,cU (xs:=[SS v]) rfl (Z4j (q v f)),gM];exact jI 7 _ _)) (λv _ _=>rfl);refine wB (b:=!(ps.all λp=>decide (p.1=[48])&&decide (p.2.length=1))) (xV ?_) (λ_=>fH rfl rfl) λ_=>?_
 .rw[iW,M4,f1,A];dsimp only;rw[if_pos (by rw[Qad,Qad];exact Qay (Nat.add_le_add (List.length_filter_le _ _) (List.length_filter_le _ _)) (by rw[Qad,Qad];omega))];show eqN 8 (.lst _) (.lst [])=_;rw[tG,<- QaT,QaZ];have n:(ps.map Prod.fst).filter (λv=>!decide (v=[48]))++(ps.map Prod.snd).filter (λv=>!decide ((v.length:Int)=1))=[]↔(ps.all λp=>decide (p.1=[48])&&decide (p.2.length=1))=true:=by
   rw[List.append_eq_nil_iff,List.filter_eq_nil_iff,List.filter_eq_nil_iff,Qaz];refine⟨λ⟨a,b⟩ p hp=>?_,λz=>⟨λv f=>?_,λv f=>?_⟩⟩
   .have a:=a _ (List.mem_map_of_mem hp);have b:=b _ (List.mem_map_of_mem hp);simp at a b ⊢;exact⟨a,by omega⟩
   .obtain⟨p,hp,rfl⟩:=Qa1.mp f;have:=z p hp;simp at this ⊢;exact this.1
   .obtain⟨p,hp,rfl⟩:=Qa1.mp f;have:=z p hp;simp at this ⊢;omega
  by_cases l:(ps.all λp=>decide (p.1=[48])&&decide (p.2.length=1))=true
  .rw[n.mpr l,l];rfl
  .rw[if_neg λz=>l (n.mp (List.map_eq_nil_iff.mp (QaM.mp z))),eq_false_of_ne_true l]
 refine wB (Z2p (inW oY rfl) λ_=>inW Z6I rfl) (λ_=>fH rfl rfl) λ_=>?_;refine iY ?_;rw[lR,jH,cU (xs:=[.bl (decide ([49]∈ps.map Prod.snd))]) (aM (by rw[iT,inW (k:=[49]) (ws:=ps.map Prod.snd) Z6I rfl];rfl) rfl) rfl];by_cases f:[49]∈ps.map Prod.snd
 .rw[Ri f,if_pos f];rfl
 .rw[Rh f,if_neg f];rfl
end
theorem Z0v:∀(l:Ab Nat) (a:Nat),a<=l.foldl (λa c=>a*10+(c-48)) a
 |[],a=>Qap _
 |c::r,a=>Qay (by omega) (Z0v r (a*10+(c-48)))
def mM(h:okN v=true):(dvI v=0↔v=[48])/\0<=dvI v:=by
 refine⟨⟨λz=>?_,λz=>by rw[z];rfl⟩,Int.natCast_nonneg _⟩;obtain⟨h1,h2,_⟩:=uQ h;cases v with
 |nil=>exact absurd rfl h2
 |cons c r =>
  have hc:=h1 c Qag;have b:PySem.NumText.digitsVal (c::r)=0:=by unfold dvI at z;omega
  have i:=Z0v r (0*10+(c-48));have f:r.foldl (λa c=>a*10+(c-48)) (0*10+(c-48))=0:=b;have:c=48:=by have:=hc.1;omega
  subst this;unfold okN at h;simp at h;rw[h.1.2]
def cx{α:Type}{fr:Ab Nat}{src:En->Aa (Ab D)}{fe:En->Aa D}{ac:En}{X:Af}(b a:α->D)(ok:α->Bool){xs:Ab α}(hs:src ac=some (xs.map b))(f:xs.length<=1000)(j:∀x C,a x ≠ .exc C)(h:∀x∈xs,fe (some (false,b x)::qH fr ac)=some (if ok x=true then a x else .exc X)) :
  rR fr src fe ac=(if xs.all ok=true then none else some (.exc X))/\(xs.all ok=true->cX fr src fTT (fNX fe) ac=some (.lst (xs.map a))):=by
 refine⟨?_,λl=>jS b a hs f λx i=>?_⟩
 .unfold rR;rw[hs];dsimp only;rw[if_pos (by rw[Qad];exact f)];clear hs f
  induction xs with
  |nil=>rfl
  |cons x xs ih =>
   have h1:=h x Qag;rw[Qan];unfold Z80;rw[h1,List.all_cons];cases i:ok x with
   |false=>rfl
   |true =>
    rw[if_pos rfl,Bool.true_and,<- ih λy hy=>h y (Qaa _ hy)];have:=j x;split
    .rename_i C e;exact absurd (QaF e) (this C)
    .rfl
    .rename_i e;cases e
 .have:=h x i;rw[if_pos (Qaz.mp l x i)]at this;exact eJ this (j x)
def yN(c:Nat):Int:=if c=49 then 1 else 0
section
variable {C CL:Af}{ps:Pw}
def Z3A(h:Ls v):oK C CL [SS v]=some (if v.all lY=true then LI (v.map yN) else .exc CL):=by
 have b:v.length<=1000:=by have:=h.2;omega
 have k1:cX [] (oQ (aD 0)) fTT (dH (fIn (aD 0) (fC (.str "01")))) [oF (SS v)]=some (.lst (v.map λc=>D.bl (lY c))) :=
  jS (λc:Nat=>D.str ⟨#[c]⟩) (λc=>.bl (lY c)) (Z0x h rfl) b λc _=>by rw[iT,Z4o rfl];rfl
 have k3:Z3D [.lst (v.map λc=>D.bl (lY c))]=some (.bl (v.all lY)):=by
  show(kY _).map _=_;rw[vH];simp[List.all_map]
 have f:cH (fB (fB1 Z3D (aA (cX [] (oQ (aD 0)) fTT (dH (fIn (aD 0) (fC (.str "01"))))) aF))) [oF (SS v)]=some (!v.all lY):=xV (by rw[tP,cU (aM k1 rfl) k3]);refine qF ?_;show Wp (yI C CL [oF (SS v)]) _;unfold yI;cases a:v.all lY with
 |false=>exact gX (by rw[f,a];rfl) rfl
 |true =>
  refine wNo (by rw[f,a];rfl) (oB (iY ?_) λC e=>by cases e);rw[jS (λc:Nat=>D.str ⟨#[c]⟩) (λc=>.int (yN c)) (Z0x h rfl) b λc hc=>?_,if_pos rfl]
  .unfold LI;rw[Qbc];rfl
  .have:=Qaz.mp a c hc;rcases of_decide_eq_true this with rfl|rfl<;>kernel_rfl
def J6(n:∀p∈ps,Ls p.1/\Ls p.2)(l:ps≠[])(u:ps.length<=200) :
  hG C CL [.lst ((pw ps).map SS)]=some (bif !(ps.all λp=>okN p.1) then .exc CL else bif !(ps.all λp=>p.2.all lY) then .exc CL else .tup [.str "named",LI (ps.map λp=>dvI p.1),.lst (ps.map λp=>LI (p.2.map yN))]):=by
 have hp:0<ps.length:=List.length_pos_iff.mpr l;refine qF ?_;show Wp (hU C CL [oF (.lst ((pw ps).map SS)),none]) _;unfold hU;have r:fEq (fI2 (λ_ j=>0<j) (λi j=>.int (i%j)) (fB1 bF (aA (aD 0) aF)) (fC (.int 2))) (fC (.int 0)) [oF (.lst ((pw ps).map SS)),none]=some true:=by
  rw[iW,dO (uT (ws:=pw ps) rfl) (gM (d:=.int 2)) (show(0:Int)<2 by decide),gM,xP];dsimp only;rw[jI,Ri (by omega)]
 have t:fEq (aD 0) (bO aF) [oF (.lst ((pw ps).map SS)),none]=some false:=by
  show eqN 8 (.lst ((pw ps).map SS)) (.lst [])=_;rw[tG,if_neg (by rw[Qad,xP];simp only[QaZ];omega)]
 refine wNo (orB t λ_=>xV r) ?_;obtain⟨a,q⟩:=cx (X:=CL) (fr:=[]) (ac:=[oF (.lst ((pw ps).map SS)),none]) (fe:=aL (eB C CL) [] (aA (aD 0) aF)) (λp:Ab Nat×Ab Nat=>SS p.1) (λp=>.int (dvI p.1)) (λp=>okN p.1) (xs:=ps) (src:=dZ (mY (aD 0) cR (fP (fC (.int 2))))) (by rw[wO (Z48 0 (by decide) rfl rfl),Qbc];rfl) (by omega) (λp C e=>by cases e) λp hp=>aQ (xs:=[SS p.1]) rfl (vW (n p hp).1);cases f:ps.all λp=>okN p.1 with
 |false =>
  rw[f]at a;exact zO (gF a rfl)
 |true =>
  rw[f]at a;refine Z52 (env':=[oF (.lst ((pw ps).map SS)),oT (.lst (ps.map λp=>.int (dvI p.1)))]) ?_ ?_
  .unfold rOr bJ;rw[a,q f];rfl
  obtain⟨b,o⟩:=cx (X:=CL) (fr:=[]) (ac:=[oF (.lst ((pw ps).map SS)),oT (.lst (ps.map λp=>.int (dvI p.1)))]) (fe:=aL (oK C CL) [] (aA (aD 0) aF)) (λp:Ab Nat×Ab Nat=>SS p.2) (λp=>LI (p.2.map yN)) (λp=>p.2.all lY) (xs:=ps) (src:=dZ (mY (aD 0) (fP (fC (.int 1))) (fP (fC (.int 2))))) (by rw[wO (Z48 1 (by decide) rfl rfl),Qbc];rfl) (by omega) (λp C e=>by cases e) λp hp=>aQ (xs:=[SS p.2]) rfl (Z3A (n p hp).2);cases h:ps.all λp=>p.2.all lY with
  |false =>
   rw[h]at b;exact gF b rfl
  |true =>
   rw[h]at b;unfold rOr;rw[b,Z6W (M2 rfl (Z3r rfl (M2 (o h) rfl))) (by simp)];unfold LI;rw[Qbc];rfl
end
def Zb2{ps:Pw}(f g:Ab Nat×Ab Nat->D):Z6f [.lst (ps.map f),.lst (ps.map g)]=some (ps.map λp=>.tup [f p,g p]):=by
 have:∀ps:Pw,qI (ps.map f) (ps.map g)=ps.map λp=>.tup [f p,g p]:=λps=>by
  induction ps with
  |nil=>rfl
  |cons p ps ih=>rw[Qan,Qan,Qan,qI,ih]
 exact congrArg some (this ps)
def Zdu{ps:Pw}{v:Int}{b:Ab Nat×Ab Nat->Int}:eqN 8 (.lst (ps.map λ_=>.lst [.int v])) (.lst (ps.map λp=>.lst [.int (b p)]))=some (ps.all λp=>decide (v=b p)):=by
 rw[tG,if_pos (by rw[Qad,Qad])]
 induction ps with
 |nil=>rfl
 |cons p ps ih =>
  rw[Qan,Qan,M5,ih,tG,List.all_cons];simp only[Qai,QaZ,Rk,M5,jI,Zaj,Qa4]
section
variable {C CW:Af}{ps:Pw}
def Zcz(h:f3 f v)(b:ps.length<=200):sV C [c1 C,.lst (ps.map λ_=>.int 0),f]=some (.lst (ps.map λ_=>.lst [.int v])):=by
 have a:sU C [.lst [.int v],.int 0]=some (.lst [.int v]):=by
  simp only[sU,U2,U7];rcases h with⟨_,rfl⟩|⟨_,rfl⟩|⟨_,rfl⟩<;>kernel_rfl
 refine iC ?_;show yJ C [oF (c1 C),oF (.lst (ps.map λ_=>.int 0)),oF f,none]=_;unfold yJ;refine Z1f (aQ (xs:=[c1 C,f]) rfl (Z2v h)) (iY ?_);exact jS (λ_:Ab Nat×Ab Nat=>.int 0) (λ_=>.lst [.int v]) rfl (by omega) λp _=>aQ (xs:=[.lst [.int v],.int 0]) rfl a
def bP(p:Ab Nat×Ab Nat):Int:=if p.2=[49] then 1 else 0
def fB2(b:Bool):D:=if b then w1 1 else .non
def ZdH(a:ps.length<=200):Z0a C [c1 C,.lst (ps.map λ_=>.int 0),.lst (ps.map λp=>.lst [.int (bP p)])]=some (.lst (([false,true].filter λb=>ps.all λp=>decide ((if b then 1 else 0)=bP p)).map fB2)):=by
 refine iC (iY ?_);refine lQ fB2 fB2 _ (wO (aQ (xs:=[c1 C]) rfl ZdL)) (by decide) (λb _=>?_) λb _ _=>by cases b<;>rfl
 rw[iW,aQ (xs:=[c1 C,.lst (ps.map λ_=>.int 0),fB2 b]) rfl (Zcz (f:=fB2 b) (v:=if b then 1 else 0) (by cases b;exact .inl ⟨rfl,rfl⟩;exact .inr (.inr ⟨rfl,rfl⟩)) a)];exact Zdu
abbrev tH(C:Af)(ps:Pw)(p:Ab Nat×Ab Nat):En:=[oF (c1 C),oF (LI (ps.map λp=>dvI p.1)),oF (.lst (ps.map λp=>LI (p.2.map yN))),oF (.int (dvI p.1)),oF (LI (p.2.map yN))]
def J5(q:ps≠[])(A:ps.length<=200)(t:(ps.all λp=>okN p.1)=true)(l:(ps.all λp=>p.2.all lY)=true) :
  gZ C CW [c1 C,LI (ps.map λp=>dvI p.1),.lst (ps.map λp=>LI (p.2.map yN))]=some (bif !(ps.all λp=>decide (p.1=[48])&&decide (p.2.length=1)) then .exc CW else bif decide ([48]∈ps.map Prod.snd)&&decide ([49]∈ps.map Prod.snd) then .str "none" else .str (if [49]∈ps.map Prod.snd then "0 1" else "good")):=by
 refine qF ?_;show Wp (nW C CW [oF (c1 C),oF (LI (ps.map λp=>dvI p.1)),oF (.lst (ps.map λp=>LI (p.2.map yN))),none,none]) _;unfold nW;have w:=Zb2 (ps:=ps) (λp=>.int (dvI p.1)) (λp=>LI (p.2.map yN));refine Z1g (qO (xs:=[.lst (ps.map λp=>.int (dvI p.1)),.lst (ps.map λp=>LI (p.2.map yN))]) (by unfold LI;rw[Qbc];rfl) w) (λi ac=>∃x y,ac=[oF (c1 C),oF (LI (ps.map λp=>dvI p.1)),oF (.lst (ps.map λp=>LI (p.2.map yN))),x,y]/\(ps.take i).all (λp=>decide (p.1=[48])&&decide (p.2.length=1))=true) ⟨none,none,rfl,rfl⟩ ?_ ?_
 .rintro i d ac hd ⟨x,y,rfl,a⟩;obtain⟨p,j,rfl⟩:=jV hd;obtain⟨o,E⟩:=mM (Qaz.mp t p (QaE j));refine⟨_,rfl,?_⟩;have hc:=aQ (F':=dG C CW) (dds:=[]) (fs:=aA (aD 0) (aA (aD 3) aF)) (ac:=(tH C ps p)) (xs:=[c1 C,.int (dvI p.1)]) rfl Zb6;by_cases h1:p.1=[48]
  .rw[if_pos (o.mpr h1)]at hc;have s1:=iD (pre:=dT) (g:=qS (fNX (aL (dG C CW) [] (aA (aD 0) (aA (aD 3) aF))))) hc (λC e=>by cases e);have v:qS (fNX (aL (dG C CW) [] (aA (aD 0) (aA (aD 3) aF)))) (tH C ps p)=.next (tH C ps p):=by
    unfold qS;rw[eJ hc (λC e=>by cases e)]
   rw[v]at s1;have u:fB1 bF (aA (aD 4) aF) (tH C ps p)=some (.int (p.2.length:Int)):=cU (xs:=[LI (p.2.map yN)]) rfl (by simp only[bF,LI,Qad]);have n:cH (fEq (fB1 bF (aA (aD 4) aF)) (fB1 bF (aA (cZ C "outs" (aD 0)) aF))) (tH C ps p)=some (!decide ((p.2.length:Int)=1)):=by
    refine xV ?_;rw[iW,u,cU (xs:=[.lst [.int 0]]) (aM (fO rfl) rfl) rfl];exact jI 7 _ _
   by_cases h2:p.2.length=1
   .left;refine⟨(tH C ps p),.inl (Z52 s1 ?_),_,_,rfl,oU j a (by rw[Ri h1,Ri h2];rfl)⟩;unfold rIf;rw[n,Ri (by omega)];rfl
   .right;left;refine⟨.exc CW,Z52 s1 ?_,?_⟩
    .unfold rIf;rw[n,Rh (by omega)];rfl
    .rw[lI j (by rw[Rh h2,Bool.and_false])];rfl
  .rw[if_neg (mt o.mp h1)]at hc;right;left;exact⟨.exc CW,zO (gF hc rfl),by rw[lI j (by rw[Rh h1];rfl)];rfl⟩
 rintro env' ⟨x,y,rfl,a⟩;rw[Qad,Qa0]at a;rw[a];have a:=Qaz.mp a;have l:=Qaz.mp l;have two:∀p∈ps,p.1=[48]/\(p.2=[48]\/p.2=[49]):=λp hp=>by
  have z:=a p hp;have b:=l p hp;simp only[Qak,Rj]at z;obtain⟨c,hc⟩:=List.length_eq_one_iff.mp z.2;rw[hc]at b ⊢;simp[lY]at b;exact⟨z.1,by simpa using b⟩
 have m1:LI (ps.map λp=>dvI p.1)=.lst (ps.map λ_=>.int 0):=by
  unfold LI;rw[Qbc];exact congrArg D.lst (Qbs λp hp=>by show D.int (dvI p.1)=_;rw[(two p hp).1];rfl)
 have m2:(ps.map λp=>LI (p.2.map yN))=ps.map λp=>.lst [.int (bP p)]:=Qbs λp hp=>by
  unfold bP;rcases (two p hp).2 with z|z<;>rw[z]<;>rfl
 rw[m1,m2];have q0:(ps.all λp=>decide (0=bP p)) = !decide ([49]∈ps.map Prod.snd):=by
  rw[QaU];simp only[Qaz,Rj,Bool.not_eq_true',Rm,Qa1,not_exists,not_and,bP];exact forall_congr' λp=>forall_congr' λhp=>by split<;>simp_all
 have B:(ps.all λp=>decide (1=bP p)) = !decide ([48]∈ps.map Prod.snd):=by
  rw[QaU];simp only[Qaz,Rj,Bool.not_eq_true',Rm,Qa1,not_exists,not_and,bP];exact forall_congr' λp=>forall_congr' λhp=>by rcases (two p hp).2 with z|z<;>simp[z]
 obtain⟨p,hp⟩:=List.exists_mem_of_ne_nil _ q;have r:[48]∈ps.map Prod.snd\/[49]∈ps.map Prod.snd:=(two p hp).2.imp (λz=>Qa1.mpr ⟨p,hp,z⟩) λz=>Qa1.mpr ⟨p,hp,z⟩;refine oB (iY (aQ (xs:=[_]) (aM (aQ (xs:=[c1 C,.lst (ps.map λ_=>.int 0),.lst (ps.map λp=>.lst [.int (bP p)])]) rfl (ZdH A)) rfl) ?_)) ?_
 .simp only[List.filter_cons,List.filter_nil,Qbd,Rl,Rk,q0,B];by_cases h:[48]∈ps.map Prod.snd<;>by_cases f:[49]∈ps.map Prod.snd
  .simp only[h,f];kernel_rfl
  .simp only[h,f];kernel_rfl
  .simp only[h,f];kernel_rfl
  .exact absurd r (by simp only[h,f];simp)
 .intro C e;simp only[Bool.not_true,cond_false]at e;by_cases h:[48]∈ps.map Prod.snd<;>by_cases f:[49]∈ps.map Prod.snd<;>simp only[h,f]at e<;>cases e
end
def Zda(h:okB 2 b=true):b=[48]\/b=[49]:=by
 unfold okB at h;rw[Qak,Rj]at h;obtain⟨h1,h2⟩:=h;obtain⟨h3,f,_⟩:=uQ h1
 match b,h1,h2,h3,f with
 |[c],h1,h2,h3,_ =>
  have hc:=h3 c Qag;have i:dvI [c]=((0*10+(c-48):Nat):Int):=rfl;have:=hc.1;rcases (show c=48\/c=49 by omega)with rfl|rfl<;>simp
 |c::c'::r,h1,h2,h3,_ =>
  have hc:=h3 c Qag;have j:=Z0v r ((0*10+(c-48))*10+(c'-48));have i:dvI (c::c'::r)=((r.foldl (λa c=>a*10+(c-48)) ((0*10+(c-48))*10+(c'-48)):Nat):Int):=rfl;have:c=48:=by have:=hc.1;omega
  subst this;unfold okN at h1;simp at h1
def Agr(C CL CE CW:Af)(d d' c':D):Prop:=(∃s,d=.str s/\d'=.str s)\/c'=c1 C/\(d=Lr "line" /\ d'=.exc CL\/d=Lr "circuit" /\ d'=.exc CE\/d=Lr "wire" /\ d'=.exc CW)
def Z2q(C CL CE CW CD a:Af)(l:Ab Nat):Prop:=∃d d' c',fS C [SS l]=some d/\pX C CL CE CW CD a (cQ CD (c1 C)) [SS l]=some (d',cQ CD c')/\Agr C CL CE CW d d' c'
section
variable {C CL CE CW CD a:Af}{l w:Ab Nat}{ws:Ab (Ab Nat)}
def gA(h1:fS C [SS l]=some (Lr "line"))(h2:bU C CL [SS l]=some (.exc CL)):Z2q C CL CE CW CD a l:=⟨_,_,_,h1,Zbj h2,.inr ⟨rfl,.inl ⟨rfl,rfl⟩⟩⟩
def lP(h1:fS C [SS l]=some d)(h2:bU C CL [SS l]=some (.tup (.str k::xs)))(h3:fG C CW [c1 C,.tup (.str k::xs)]=some d')(b:(∃s,d=.str s/\d'=.str s)\/d=Lr "wire" /\ d'=.exc CW)(h:(k==Str.ofString "new")=false:=by decide +kernel)(f:(k==Str.ofString "lean")=false:=by decide +kernel):Z2q C CL CE CW CD a l :=
 ⟨_,_,_,h1,Z8T h2 h f h3,b.imp id λz=>⟨rfl,.inr (.inr z)⟩⟩
def Zab(k:LN l yB ws)(i:[]∉yB::ws):Z2q C CL CE CW CD a l:=by
 by_cases f:ws=[]
 .subst f;exact gA (oN (nw:=true) (nd:=.non) k (λ_ _ z=>absurd rfl z) λ_ z=>absurd rfl z) (Q7 (nd:=.non) (nu:=.non) k (λ_ z=>by cases z) λ_ z=>absurd rfl z)
 have hw:∀v∈ws,Wg v:=λv hv=>k.g v (Qaa _ hv) λz=>i (z ▸ Qaa _ hv);obtain⟨b,d,o,h,p,j⟩:=Z7x (C:=C) (CE:=CE) f hw (by have:=k.n;omega) k.t;have l1:=oN (nw:=b) (nd:=.non) k (λ_ _ _=>o) λ_ _ z=>by cases z
 have t1:=Q7 (nd:=.non) (nu:=.non) (C:=C) (CL:=CL) k (λ_ z=>by cases z) λ_ z=>absurd rfl z;have q:ws.length≠0:=λz=>f (QaM.mp z);rw[Rh i,Rh (show ¬(ws.length:Int)=0 by omega)]at l1;rw[Rh i,if_neg f]at t1;cases b with
 |true =>
  have hp:=p rfl;exact⟨_,_,_,l1,Z8S t1 h (λC e=>by rw[e]at hp;cases hp) hp,.inl ⟨_,rfl,rfl⟩⟩
 |false =>
  rw[j rfl]at h;exact⟨_,_,_,l1,Z6F t1 h,.inr ⟨rfl,.inr (.inl ⟨rfl,rfl⟩)⟩⟩
def Z0W(h:gZ C CW [c,x,y]=some d):fG C CW [c,.tup [.str "named",x,y]]=some d:=by
 refine iC ?_;show kL C CW [oF c,oF (.tup [.str "named",x,y])]=_;unfold kL;refine sNo (by rw[iW,jH];kernel_rfl) (sNo (by rw[iW,jH];kernel_rfl) (Z90 (by rw[iW,jH];kernel_rfl) (zO (Z3R (aQ (xs:=[c,x,y]) rfl h)))))
def Z5V(k:LN l jG ws)(F:[]∉jG::ws):Z2q C CL CE CW CD a l:=by
 by_cases u:ws=[]
 .subst u;exact gA (oN (nw:=true) (nd:=.non) k (λ_ _ z=>absurd rfl z) λ_ z=>absurd rfl z) (Q7 (nd:=.exc CL) (nu:=.non) k (λ_ _=>rfl) λ_ _ z=>absurd rfl z)
 have H:ws.length≠0:=λz=>u (QaM.mp z);have f:=λnd h=>oN (C:=C) (nw:=true) (nd:=nd) k (λz=>by cases z) λ_ _ _=>h;have q:=λnd h=>Q7 (nd:=nd) (nu:=.non) (C:=C) (CL:=CL) k (λ_ _=>h) λ_ _ z=>absurd rfl z;rw[Rh F]at f q;rw[Rh (show ¬(ws.length:Int)=0 by omega)]at f;by_cases J:ws.length%2=0
 .obtain⟨ps,rfl⟩:=ZaP (ws.length/2) ws (by omega);have B:=k.n;rw[xP]at B;have o:ps≠[]:=λz=>u (by rw[z];rfl);have y:∀p∈ps,Ls p.1/\Ls p.2:=λp hp=>⟨k.h _ (Qaa _ (List.mem_flatMap.mpr ⟨p,hp,by simp⟩)),k.h _ (Qaa _ (List.mem_flatMap.mpr ⟨p,hp,by simp⟩))⟩;have b:=f _ (K0 y o (by omega));have t1:=q _ (J6 y o (by omega));unfold Z34 at b;cases r:ps.all λp=>okN p.1 with
  |false=>rw[r]at b t1;exact gA b t1
  |true =>
   cases v:ps.all λp=>p.2.all lY with
   |false=>rw[r,v]at b t1;exact gA b t1
   |true =>
    have I:=J5 (C:=C) (CW:=CW) o (by omega) r v;rw[r,v]at b t1;refine lP b t1 (Z0W I) ?_;cases ps.all λp=>decide (p.1=[48])&&decide (p.2.length=1) with
    |false=>exact .inr ⟨rfl,rfl⟩
    |true =>
     left;cases decide ([48]∈ps.map Prod.snd)&&decide ([49]∈ps.map Prod.snd) with
     |false=>exact⟨_,rfl,rfl⟩
     |true=>exact⟨_,rfl,rfl⟩
 .have w:((ws.length:Nat):Int)%2=1:=by omega
  have x:=dO (C:=λ_ j=>0<j) (g:=λi j=>D.int (i%j)) (uT (ws:=ws) (ac:=[oF (.lst (ws.map SS)),none]) (fa:=aD 0) rfl) (gM (d:=.int 2)) (show(0:Int)<2 by decide);have t:=dO (C:=λ_ j=>0<j) (g:=λi j=>D.int (i%j)) (uT (ws:=ws) (ac:=[oF (.lst (ws.map SS)),none,none]) (fa:=aD 0) rfl) (gM (d:=.int 2)) (show(0:Int)<2 by decide);rw[w]at x t;have E:fEq (fI2 (λ_ j=>0<j) (λi j=>.int (i%j)) (fB1 bF (aA (aD 0) aF)) (fC (.int 2))) (fC (.int 1)) [oF (.lst (ws.map SS)),none,none]=some true:=by rw[iW,t];rfl
  have G:cH (fEq (fI2 (λ_ j=>0<j) (λi j=>.int (i%j)) (fB1 bF (aA (aD 0) aF)) (fC (.int 2))) (fC (.int 0))) [oF (.lst (ws.map SS)),none]=some true:=by rw[gC,iW,x];rfl
  have A:fEq (aD 0) (bO aF) [oF (.lst (ws.map SS)),none]=some false:=by
   show eqN 8 (.lst (ws.map SS)) (.lst [])=_;rw[tG,if_neg (by rw[Qad];exact H)]
  refine gA (f (Lr "line") (qF ?_)) (q (.exc CL) (qF ?_))
  .show Wp (hV C [oF (.lst (ws.map SS)),none,none]) _;unfold hV;exact gX ((orB (S9 (ws:=ws) rfl) λ_=>orT E).trans (by rw[Bool.or_true])) (fH rfl rfl)
  .show Wp (hU C CL [oF (.lst (ws.map SS)),none]) _;unfold hU;exact gX (orB A λ_=>G) rfl
def Z1E(k:LN l w ws)(h:lkT FORMS [.inr (mkS w),.inl (ws.length:Int)]=some ks)(a:ks.length=ws.length):cF C CL [.lst ((w::ws).map SS)]=some (if (ws.zip ks).all okK=true then LI (ws.map dvI) else .exc CL):=by
 rw[nI (λv hv=>k.h v (Qaa _ hv)) (by have:=k.n;omega) (λks' e=>by rw[h]at e;cases e;exact a),h]
def G9(v:Ab Nat):okK (v,"number")=okN v:=by
 unfold okK;rw[show decide (Str.ofString "number" = Str.ofString "bit")=false by decide +kernel];simp
def S7(v:Ab Nat):okK (v,"bit")=okB 2 v:=by
 unfold okK okB;rw[show decide (Str.ofString "bit" = Str.ofString "bit")=true by decide +kernel,Bool.true_and];congr 1;rw[QaU];simp;omega
def Z7u(x y:Ab Nat):okA [x,y]=(okN x&&okB 2 y):=by
 show((okB 1000000000 x&&true)&&(okB 2 y&&true))=_;rw[Z9K,Qa4,Qa4]
def Z7t(x y z:Ab Nat):okA [x,y,z]=(okN x&&(okB 2 y&&okB 2 z)):=by
 show((okB 1000000000 x&&true)&&(okB 2 y&&(okB 2 z&&true)))=_;rw[Z9K,Qa4,Qa4]
theorem ZaS(cs:Ab (Ab Nat))(g:Ab Nat):hJ cs g=if okN g=true then(match cM cs with | .str s=>if g=[48] then .str s else Lr "wire" | d=>d) else Lr "line":=by unfold hJ;rw[Z9K]
def ZaZ(h:okB 2 b=true):f3 (w1 (dvI b)) (dvI b)/\SS b=.str (Z5B (dvI b)):=by
 rcases Zda h with rfl|rfl
 .exact⟨.inr (.inl ⟨rfl,rfl⟩),by kernel_rfl⟩
 .exact⟨.inr (.inr ⟨rfl,rfl⟩),by kernel_rfl⟩
def zG(k:LN l w ws)(a:[]∉w::ws)(h1:w≠yB)(h2:w≠jG){nu:D}(b:cF C CL [.lst ((w::ws).map SS)]=some (.exc CL)/\nu=.exc CL\/∃ns,cF C CL [.lst ((w::ws).map SS)]=some (LI ns)/\Tl w ns nu):bU C CL [SS l]=some nu:=by
 have:=Q7 (C:=C) (CL:=CL) (nd:=.non) (nu:=nu) k (λ_ z=>absurd z h2) λ_ _ _=>b;rw[Rh a,Rh h1,Rh h2]at this;exact this
def wX(k:LN l w ws)(a:[]∉w::ws)(h1:w≠yB)(h2:w≠jG) :
  fS C [SS l]=some (bif decide ((ws.length:Int)=0) && !decide (w∈[iK,nL,mV]) then Lr "line"
   else bif decide (w=tZ)&&decide ((ws.length:Int)=1) then hJ [[48],[48]] (ws.headD [])
   else bif (decide (w=rE)&&decide ((ws.length:Int)=3))||(decide (w=Z1K)&&decide ((ws.length:Int)=4)) then hJ ws.dropLast (ws.getLastD [])
   else bif decide (w=kTells) then W9 (cM ws)
   else bif decide ((ws.length:Int)=0) then .str (if w=nL then "none" else "1") else Lr "line"):=by
 have:=oN (C:=C) (nw:=true) (nd:=.non) k (λz=>absurd z h1) λ_ _ z=>absurd z h2;rw[Rh a,Rh h1,Rh h2,Bool.false_or]at this;exact this
def ZaV(hc:cs.length=2\/cs.length=3):okA cs=false/\cM cs=Lr "line" \/ okA cs=true/\((∃b,okB 2 b=true/\cM cs=SS b/\fD (cs.map dvI)=w1 (dvI b))\/cM cs=Lr "wire" /\ bZ C CW [c1 C,fD (cs.map dvI)]=some (.exc CW)):=by
 match cs,hc with
 |[x,y],_ =>
  rw[show cM [x,y]=(if okA [x,y]=true then(if x=[48] then SS y else Lr "wire") else Lr "line") from rfl]
  cases a:okA [x,y] with
  |false=>exact .inl ⟨rfl,rfl⟩
  |true =>
   rw[Z7u,Qak]at a;obtain⟨f,h⟩:=mM a.1;refine .inr ⟨rfl,?_⟩;by_cases e:x=[48]
   .exact .inl ⟨y,a.2,if_pos e,by show fD [dvI x,dvI y]=_;rw[f.mpr e];rfl⟩
   .exact .inr ⟨if_neg e,ZaA (by have:=mt f.mp e;omega)⟩
 |[x,y,z],_ =>
  rw[show cM [x,y,z]=(if okA [x,y,z]=true then Lr "wire" else Lr "line") from rfl]
  cases a:okA [x,y,z] with
  |false=>exact .inl ⟨rfl,rfl⟩
  |true =>
   rw[Z7t,Qak]at a;refine .inr ⟨rfl,.inr ⟨rfl,?_⟩⟩;show bZ C CW [c1 C,fD [dvI x,dvI y,dvI z]]=_;by_cases e:dvI x=0
   .rw[e];exact Zcw (by unfold dvI;omega)
   .exact ZaA (by have:=(mM a.1).2;omega)
def Z4A(k:LN l w (cs++[g]))(i:[]∉w::(cs++[g]))(hw:w=rE/\cs.length=2\/w=Z1K/\cs.length=3):Z2q C CL CE CW CD a l:=by
 have h1:w≠yB/\w≠jG:=by rcases hw with⟨rfl,_⟩|⟨rfl,_⟩<;>decide
 have f:fS C [SS l]=some (hJ cs g)/\cF C CL [.lst ((w::(cs++[g])).map SS)]=some (if (okA cs&&okN g)=true then LI ((cs++[g]).map dvI) else .exc CL):=by
  rcases hw with⟨rfl,hc⟩|⟨rfl,hc⟩
  .match cs,hc,k,i with
   |[x,y],_,k,i =>
    refine⟨wX k i h1.1 h1.2,(Z1E k (ks:=["number","bit","number"]) (by kernel_rfl) rfl).trans ?_⟩;rw[Z7u,<- G9 x,<- S7 y,<- G9 g,Bool.and_assoc,<- Qa4 (okK (g,_))];rfl
  .match cs,hc,k,i with
   |[x,y,z],_,k,i =>
    refine⟨wX k i h1.1 h1.2,(Z1E k (ks:=["number","bit","bit","number"]) (by kernel_rfl) rfl).trans ?_⟩;rw[Z7t,<- G9 x,<- S7 y,<- S7 z,<- G9 g,Bool.and_assoc,Bool.and_assoc,<- Qa4 (okK (g,_))];rfl
 obtain⟨f,j⟩:=f;have hc:cs.length=2\/cs.length=3:=hw.imp And.right And.right;rw[ZaS]at f;cases p:okN g with
 |false =>
  rw[p]at f j;rw[Bool.and_false]at j;exact gA f (zG k i h1.1 h1.2 (.inl ⟨j,rfl⟩))
 |true =>
  rw[p]at f j;have t1:=λ(h:okA cs=true)=>zG (C:=C) (CL:=CL) k i h1.1 h1.2 (.inr ⟨(cs++[g]).map dvI,j.trans (by rw[h];rfl),.inr (.inl ⟨hw.imp And.left And.left,cs.map dvI,dvI g,by simp,by simpa using hc,rfl⟩)⟩);rcases ZaV (C:=C) (CW:=CW) hc with⟨h,e⟩|⟨h,⟨b,q,e,t⟩|⟨e,r⟩⟩
  .rw[h]at j;rw[e]at f;exact gA f (zG k i h1.1 h1.2 (.inl ⟨j,rfl⟩))
  .rw[e]at f;have t2:=Zct (C:=C) (CW:=CW) (ZaZ q).1 (n:=dvI g);rw[<- t]at t2;refine lP f (t1 h) (rY t2) ?_;by_cases o:g=[48]
   .rw[if_pos ((mM p).1.mpr o)];exact .inl ⟨_,(if_pos o).trans (ZaZ q).2,rfl⟩
   .rw[if_neg (mt (mM p).1.mp o)];exact .inr ⟨if_neg o,rfl⟩
  .rw[e]at f;exact lP f (t1 h) (rY (Zcs r)) (.inr ⟨rfl,rfl⟩)
def Z84(k:LN l tZ [g])(j:[]∉tZ::[g]):Z2q C CL CE CW CD a l:=by
 have b:fS C [SS l]=some (hJ [[48],[48]] g):=wX k j (by decide) (by decide);have f:=Z1E (C:=C) (CL:=CL) k (ks:=["number"]) (by kernel_rfl) rfl;rw[show([g].zip (["number"]:Ab Str)).all okK=(okK (g,"number")&&true) from rfl,G9,Qa4]at f
 rw[ZaS,show cM [[48],[48]]=SS [48] by rfl]at b;cases i:okN g with
 |false =>
  rw[i]at b f;exact gA b (zG k j (by decide) (by decide) (.inl ⟨f,rfl⟩))
 |true =>
  rw[i]at b f;have t1:=zG (C:=C) (CL:=CL) k j (by decide) (by decide) (.inr ⟨_,f,.inl ⟨rfl,dvI g,rfl,rfl⟩⟩);refine lP b t1 (rY (Zct (v:=0) (.inl ⟨rfl,rfl⟩))) ?_;by_cases h:g=[48]
  .rw[if_pos ((mM i).1.mpr h)];exact .inl ⟨_,(if_pos h).trans (by kernel_rfl),rfl⟩
  .rw[if_neg (mt (mM i).1.mp h)];exact .inr ⟨if_neg h,rfl⟩
def Z4z(k:LN l kTells cs)(i:[]∉kTells::cs)(hc:cs.length=2\/cs.length=3):Z2q C CL CE CW CD a l:=by
 have f:fS C [SS l]=some (W9 (cM cs))/\cF C CL [.lst ((kTells::cs).map SS)]=some (if okA cs=true then LI (cs.map dvI) else .exc CL):=by
  match cs,hc,k,i with
  |[x,y],_,k,i =>
   refine⟨wX k i (by decide) (by decide),(Z1E k (ks:=["number","bit"]) (by kernel_rfl) rfl).trans ?_⟩;rw[Z7u,<- G9 x,<- S7 y,<- Qa4 (okK (y,_))];rfl
  |[x,y,z],_,k,i =>
   refine⟨wX k i (by decide) (by decide),(Z1E k (ks:=["number","bit","bit"]) (by kernel_rfl) rfl).trans ?_⟩;rw[Z7t,<- G9 x,<- S7 y,<- S7 z,<- Qa4 (okK (z,_))];rfl
 obtain⟨f,j⟩:=f;have t1:=λ(h:okA cs=true)=>zG (C:=C) (CL:=CL) k i (by decide) (by decide) (.inr ⟨cs.map dvI,j.trans (by rw[h];rfl),.inr (.inr ⟨rfl,by rw[Qad];omega,rfl⟩)⟩);rcases ZaV (C:=C) (CW:=CW) hc with⟨h,e⟩|⟨h,⟨b,p,e,n⟩|⟨e,o⟩⟩
 .rw[h]at j;rw[e]at f;exact gA f (zG k i (by decide) (by decide) (.inl ⟨j,rfl⟩))
 .rw[e]at f;rcases Zda p with rfl|rfl
  .exact lP f (t1 h) (pR (by rw[n];exact Zcv (.inl rfl))) (.inl ⟨_,by kernel_rfl,rfl⟩)
  .exact lP f (t1 h) (pR (by rw[n];exact Zcv (.inr rfl))) (.inl ⟨_,by kernel_rfl,rfl⟩)
 .rw[e]at f;exact lP f (t1 h) (pR (Zcu o)) (.inr ⟨rfl,rfl⟩)
def Zac(k:LN l w ws):Z2q C CL CE CW CD a l:=by
 by_cases b:[]∈w::ws
 .have f:=oN (C:=C) (nw:=true) (nd:=.non) k (λ_ z=>absurd b z) λz=>absurd b z;have t1:=Q7 (C:=C) (CL:=CL) (nd:=.non) (nu:=.non) k (λz=>absurd b z) λz=>absurd b z;rw[Ri b]at f t1;exact gA f t1
 by_cases h1:w=yB
 .subst h1;exact Zab k b
 by_cases h2:w=jG
 .subst h2;exact Z5V k b
 by_cases i:(w,(ws.length:Int))∈FK
 .simp only[FK,Qab,Prod.mk.injEq,Qa6,or_false]at i;have nil:(ws.length:Int)=0->ws=[]:=λz=>QaM.mp (by omega);rcases i with⟨rfl,e⟩|⟨rfl,e⟩|⟨rfl,e⟩|⟨rfl,e⟩|⟨rfl,e⟩|⟨rfl,e⟩|⟨rfl,e⟩|⟨rfl,e⟩
  .match ws,e,k,b with|[g],_,k,b=>exact Z84 k b
  .match ws,e,k,b with|[x,y,g],_,k,b=>exact Z4A (cs:=[x,y]) k b (.inl ⟨rfl,rfl⟩)
  .match ws,e,k,b with|[x,y,z,g],_,k,b=>exact Z4A (cs:=[x,y,z]) k b (.inr ⟨rfl,rfl⟩)
  .cases nil e;have f:fS C [SS l]=some (.str "1"):=wX k b h1 h2;have:=k.j;subst this;exact lP f (by kernel_rfl) x_an.1 (.inl ⟨_,rfl,rfl⟩)
  .cases nil e;have f:fS C [SS l]=some (.str "none"):=wX k b h1 h2;have:=k.j;subst this;exact lP f (by kernel_rfl) x_an.2 (.inl ⟨_,rfl,rfl⟩)
  .match ws,e,k,b with|[x,y],_,k,b=>exact Z4z k b (.inl rfl)
  .match ws,e,k,b with|[x,y,z],_,k,b=>exact Z4z k b (.inr rfl)
  .cases nil e;have f:fS C [SS l]=some (.str "1"):=wX k b h1 h2;have:=k.j;subst this;exact⟨_,_,_,f,ZdE,.inl ⟨_,rfl,rfl⟩⟩
 have hq:∀p∈FK,¬(w=p.1/\(ws.length:Int)=p.2):=λp hp z=>i (by rw[z.1,z.2];exact hp);refine gA ((wX k b h1 h2).trans (congrArg some ?_)) (zG k b h1 h2 (.inl ⟨?_,rfl⟩))
 .have q:∀p∈FK,(decide (w=p.1)&&decide ((ws.length:Int)=p.2))=false:=λp hp=>by
   rw[<- Bool.decide_and];exact Rh (hq p hp)
  rw[q (tZ,1) (by decide),q (rE,3) (by decide),q (Z1K,4) (by decide)];by_cases r:w=kTells
  .rw[Ri r];have:cM ws=Lr "line":=by
    match ws,hq with
    |[],_=>rfl
    |[_],_=>rfl
    |[_,_],hq=>exact absurd ⟨r,rfl⟩ (hq (kTells,2) (by decide))
    |[_,_,_],hq=>exact absurd ⟨r,rfl⟩ (hq (kTells,3) (by decide))
    |_::_::_::_::_,_=>rfl
   rw[this];cases decide ((ws.length:Int)=0) && !decide (w∈[iK,nL,mV])<;>rfl
  .rw[Rh r];by_cases o:(ws.length:Int)=0
   .have:w∉[iK,nL,mV]:=λz=>by
     simp only[Qab,Qa6,or_false]at z;rcases z with z|z|z
     .exact hq (iK,0) (by decide) ⟨z,o⟩
     .exact hq (nL,0) (by decide) ⟨z,o⟩
     .exact hq (mV,0) (by decide) ⟨z,o⟩
    rw[Ri o,Rh this];rfl
   .rw[Rh o];rfl
 .rw[nI (λv hv=>k.h v (Qaa _ hv)) (by have:=k.n;omega) (λks' e=>by rw[Z4i i]at e;cases e),Z4i i]
end
def Wk(k:Nat)(u:Ab Nat):Prop:=(∀c∈u,c<128/\c≠32)/\u.length<=k
def PT(k:Nat)(d:D):Prop:=∃u,d=SS u/\Wk k u
def okS(k:Nat)(s:Str):Bool:=s.cps.toList.all (λc=>decide (c<128/\c≠32))&&decide (s.length<=k)
def kF(h:okS k s=true):PT k (.str s):=by
 unfold okS at h;rw[Qak,Qaz]at h;exact⟨s.cps.toList,by unfold SS;rw[Z35],λc hc=>of_decide_eq_true (h.1 c hc),by have:=of_decide_eq_true h.2;simpa[Str.length]using this⟩
def PT.up(h:PT k d)(f:k<=k'):PT k' d:=by
 obtain⟨u,e,a,b⟩:=h;exact⟨u,e,a,Qay b f⟩
def PA(k:Nat)(ds:Ab D):Prop:=∀d∈ds,PT k d
theorem PA.flats(h:PA k ds):flats ds=true:=tE λd hd=>by obtain⟨u,rfl,_⟩:=h d hd;rfl
def PA.nil:PA k []:=λd h=>by cases h
def PA.cons(h:PT k d)(hs:PA k ds):PA k (d::ds):=λe he=>(Qab.mp he).elim (λz=>z ▸ h) (hs e)
def PA.app(h:PA k as)(hs:PA k bs):PA k (as++bs):=λe he=>(Qaf.mp he).elim (h e) (hs e)
def tT[Decidable p](h:p):some (decide p)=some true:=congrArg some (Ri h)
def tF[Decidable p](h:¬p):some (decide p)=some false:=congrArg some (Rh h)
def Z1L(hs:fs ac=some ds)(a:ds.length<=1000)(h:f ac=some (.int n)):fIx (bO fs) f ac=atI ds n:=by
 rw[jH,Z0y,hs,h];dsimp only;rw[if_pos a]
section
variable {ac:En}{f:En->Aa D}{n k:Int}
def dU(h:f ac=some (.int n))(a:0<k):fMo f (fC (.int k)) ac=some (.int (n%k)):=dO h rfl a
def Z2e(a:0<k)(h1:k<2000):W7 n k:=⟨a,Nat.lt_of_le_of_lt (Nat.log2_le_self _) (by omega)⟩
def rS(h:f ac=some (.int n))(a:0<k)(h1:k<2000):fDv f (fC (.int k)) ac=some (.int (n/k)):=dO h rfl (Z2e a h1)
def yD(h:c ac=some b):fB1 oV (aA (dH c) aF) ac=some (.int (if b then 1 else 0)):=cU (xs:=[.bl b]) (aM (by rw[iT,h];rfl) rfl) rfl
def kW(h:f ac=some (.int n)):fEq f (fC (.int k)) ac=some (decide (n=k)):=by rw[iW,h,gM];exact jI 7 _ _
def uK(h:f ac=some (.int n))(a:0<=n)(h1:n<10):∃d,fB1 rZ (aA f aF) ac=some d/\PT 1 d:=by
 have w:=Zb8 (k:=0) (m:=n.toNat) (by omega);exact⟨_,cU (xs:=[.int n]) (aM h rfl) (Zdp a (by omega)),_,rfl,w.1,w.2.2⟩
def Z05(hs:fs ac=some ds)(b:ds.length<=1000)(hp:PA w ds)(h:f ac=some (.int n))(i:0<=n)(h1:n<(ds.length:Int)):∃d,fIx (bO fs) f ac=some d/\PT w d:=by
 obtain⟨j,rfl⟩:=Qa7 i;have a:j<ds.length:=by omega
 refine⟨ds[j],?_,hp _ (Qbr a)⟩;exact(Z1L hs b h).trans (nO (Qam a))
def PT.fl(h:PT w d)(e:f ac=some d):bD f ac=some d:=by
 obtain⟨u,rfl,_⟩:=h;rw[lR,e];rfl
end
def Zc8(a:fa ac=some (.lst ds))(h:f ac=some (.int n)):fIx fa f ac=atI ds n:=by rw[jH,a,h]
def Zc7{fa f:En->Aa D}{ac:En}{z:Str}{j c:Nat}(a:fa ac=some (.str z))(b:z.length<=1000)(h:f ac=some (.int (j:Int)))(hc:z.cps.toList[j]?=some c):bD (fIx fa f) ac=some (SS [c]):=by
 rw[lR,jH,a,h];dsimp only;rw[if_pos b,nO hc];rfl
def Z9H(h:f ac=some (.int n)):fP f ac=some (some n):=by rw[Zed,h]
def Z8l(h:f ac=some (.int n))(h':g ac=some (.int m)):fBI c f g ac=some (c n m):=by rw[lF,h,h']
def pG(h:fs ac=some ds)(a:ds.length<=1000):bO fs ac=some (.lst ds):=by rw[Z0y,h];exact if_pos a
def Z38(h:f ac=some (.int v)):fB1 Z6g (aA (kI 1) (aA f aF)) ac=some (.int (if v > 1 then v else 1)):=cU (xs:=[.int 1,.int v]) (aM rfl (aM h rfl)) rfl
abbrev St(x:Nat->Int):D:=LI ((List.range 12).map x)
section
variable {C:Af}{x:Nat->Int}
def rB(hp:0<=p)(hq:0<=q):∃d,mT C [.int p,.int q]=some d/\PT 10 d:=by
 refine E4 ?_;show Wp (vB C [oF (.int p),oF (.int q)]) _;unfold vB;by_cases l:p%8=0
 .refine gX ((kW (dU rfl (by decide))).trans (tT l)) ?_;have h:∀(i:Fin 2) (j:Fin 10),okS 10 (Txt.slice (([Str.ofString "1000000000",Str.ofString "9876543210"]:Ab Str)[i]) none (some (1+(j.val:Int))))=true:=by decide +kernel
  have a:fIx (bO (aA (kS "1000000000") (aA (kS "9876543210") aF))) (fMo (fDv (aD 1) (kI 16)) (kI 2)) [oF (.int p),oF (.int q)]=some (.str (([Str.ofString "1000000000",Str.ofString "9876543210"]:Ab Str)[(⟨(q/16%2).toNat,by omega⟩:Fin 2)])):=by
   refine(Z1L (ds:=[.str "1000000000",.str "9876543210"]) rfl (by decide) (dU (rS rfl (by decide) (by decide)) (by decide))).trans ?_;rcases (show q/16%2=0\/q/16%2=1 by omega)with z|z<;>simp only[z]<;>rfl
  have b:fP (fAd (kI 1) (fMo (aD 1) (kI 10))) [oF (.int p),oF (.int q)]=some (some (1+(((⟨(q%10).toNat,by omega⟩:Fin 10).val:Nat):Int))):=by
   refine(Z9H (fU rfl (dU rfl (by decide)))).trans ?_;show some (some (1+q%10))=some (some (1+(((q%10).toNat:Nat):Int)));rw[Int.toNat_of_nonneg (by omega)]
  refine fH ?_ ⟨_,rfl,kF (h ⟨(q/16%2).toNat,by omega⟩ ⟨(q%10).toNat,by omega⟩)⟩;unfold wN;rw[a,b];dsimp only[cR];exact if_pos ((by decide +kernel:∀i:Fin 2,(([Str.ofString "1000000000",Str.ofString "9876543210"]:Ab Str)[i]).length<=1000) _)
 .refine wNo ((kW (dU rfl (by decide))).trans (tF l)) ?_;have a:=dU (rS (ac:=[oF (.int p),oF (.int q)]) (f:=aD 0) rfl (show(0:Int)<8 by decide) (by decide)) (show(0:Int)<8 by decide);obtain⟨v,b,o,n⟩:∃v,fIx (bO (fCs [.int 0,.int 0,.int 0,.int 1,.int 2,.int 3,.int 8,.int 9])) (fMo (fDv (aD 0) (kI 8)) (kI 8)) [oF (.int p),oF (.int q)]=some (.int v)/\0<=v/\v<10:=by
   rw[Z1L (ds:=[.int 0,.int 0,.int 0,.int 1,.int 2,.int 3,.int 8,.int 9]) rfl (by decide) a];have g0:=QaS (p/8) (show(8:Int)≠0 by decide);have t:=QaP (p/8) (show(0:Int)<8 by decide);generalize p/8%8=y at *
   rcases (show y=0\/y=1\/y=2\/y=3\/y=4\/y=5\/y=6\/y=7 by omega)with rfl|rfl|rfl|rfl|rfl|rfl|rfl|rfl<;>exact⟨_,rfl,by decide,by decide⟩
  obtain⟨d,r,h3⟩:=uK b o n;exact Z2y r ⟨_,rfl,h3.up (by decide)⟩
abbrev Z0B(x:Nat->Int)(ds2:Ab D)(r:Nat)(i:Nat)(N:Int)(t:Int)(u:Ab Nat):En:=[oF (St x),oT (.int (x 1%4)),oT (.lst ds2),oT (.int (r:Int)),oF (.int (i:Int)),oT (.int N),oT (.int t),oT (SS u)]
def Z7G(q:∀i,0<=x i):∃d,Z0d C [St x]=some d/\∃ds,d=.lst ds/\PA 4 ds/\0<ds.length/\ds.length<=38:=by
 refine E4 ?_;show Wp (Z0r C [oF (St x),none,none,none,none,none,none,none]) _;unfold Z0r;have Z:=q 1;have x2:=q 2;refine gW (d:=.int (x 1%4)) (dU rfl (by decide)) ?_;obtain⟨F,S,p3⟩:=uK (ac:=[oF (St x),oT (.int (x 1%4)),none,none,none,none,none,none]) (fU (g:=λi j=>.int (i+j)) (fa:=aD 1) rfl (dO (C:=IntMulOk) (g:=λi j=>.int (i*j)) (fa:=kI 6) rfl (yD (kW (k:=0) (dU (k:=8) (rS (k:=4) (f:=fX 0 1) (n:=x 1) rfl (by decide) (by decide)) (by decide)))) (vY (by decide) (by decide)))) (by split<;>omega) (by split<;>omega);refine gW (d:=.lst [.str "new",.str "ins",F]) (pG (aM rfl (aM rfl (aM S rfl))) (by simp)) ?_;refine gW (d:=.int (x 2%5)) (dU rfl (by decide)) ?_;show Wp (aJ _ _ [oF (St x),oT (.int (x 1%4)),oT (.lst [.str "new",.str "ins",F]),oT (.int (x 2%5)),none,none,none,none]) _;obtain⟨r,W⟩:∃r:Nat,x 2%5=(r:Int):=⟨(x 2%5).toNat,by omega⟩;have p4:PA 4 [.str "new",.str "ins",F]:=.cons (kF (by decide +kernel)) (.cons (kF (by decide +kernel)) (.cons (p3.up (by decide)) .nil));rw[W];refine Q6 (ds:=(List.range r).map λk:Nat=>.int (k:Int)) (qO (xs:=[.int (r:Int)]) rfl (R7 (by omega))) (λi ac=>∃a b c d ds,ac=[oF (St x),oT (.int (x 1%4)),oT (.lst ds),oT (.int (r:Int)),a,b,c,d]/\PA 4 ds/\0<ds.length/\ds.length<=3+4*i) ⟨none,none,none,none,_,rfl,p4,by simp,by simp⟩ ?_ ?_
 .rintro i d ac R hd ⟨a,b,c,d',ds,rfl,hp,hl0,hl⟩ hR;obtain⟨hi,rfl⟩:=lZ hd;refine⟨_,rfl,?_⟩;have O:=q 3;have T:0<=x 3/((i:Int)+1):=Int.ediv_nonneg O (by omega);refine gW (d:=.int (x 3/((i:Int)+1))) (dO (i:=x 3) rfl (fU rfl rfl) (Z2e (by omega) (by omega))) ?_;generalize x 3/((i:Int)+1)=N at T ⊢;refine gW (fU (fU rfl rfl) (yD (kW (dU (rS (n:=N) rfl (by decide) (by decide)) (by decide))))) ?_;generalize ht:x 1%4+(i:Int)+(if decide (N/8%8=0)=true then 1 else 0)=t;have t0:0<=t/\t<9:=by rw[<- ht];split<;>omega
  show Wp (aJ _ _ [oF (St x),oT (.int (x 1%4)),oT (.lst ds),oT (.int (r:Int)),oF (.int (i:Int)),oT (.int N),oT (.int t),d']) _;obtain⟨L,P,H⟩:=Z05 (ac:=[oF (St x),oT (.int (x 1%4)),oT (.lst ds),oT (.int (r:Int)),oF (.int (i:Int)),oT (.int N),oT (.int t),d']) (ds:=[.str "fix",.str "not",.str "and",.str "or",.str "xor"]) (w:=4) (fs:=aA (kS "fix") (aA (kS "not") (aA (kS "and") (aA (kS "or") (aA (kS "xor") aF))))) rfl (by decide) (.cons (kF (by decide +kernel)) (.cons (kF (by decide +kernel)) (.cons (kF (by decide +kernel)) (.cons (kF (by decide +kernel)) (.cons (kF (by decide +kernel)) .nil))))) (dU (f:=aD 5) (n:=N) (k:=5) rfl (by decide)) (by omega) (by show N%5<5;omega);refine gW (H.fl P) ?_;show Wp (aJ _ _ [oF (St x),oT (.int (x 1%4)),oT (.lst ds),oT (.int (r:Int)),oF (.int (i:Int)),oT (.int N),oT (.int t),oT L]) _;obtain⟨u,rfl,Q⟩:=H;have X:=xV (eqS (ac:=[oF (St x),oT (.int (x 1%4)),oT (.lst ds),oT (.int (r:Int)),oF (.int (i:Int)),oT (.int N),oT (.int t),oT (SS u)]) (fa:=aD 7) (w:=u) Z3P rfl);have h:fIx (bO (aA (kI 2) (aA (bD (aD 6)) aF))) (fB1 oV (aA (dH (cH (fEq (aD 7) (kS "fix")))) aF)) [oF (St x),oT (.int (x 1%4)),oT (.lst ds),oT (.int (r:Int)),oF (.int (i:Int)),oT (.int N),oT (.int t),oT (SS u)]=some (.int (if u=uW then 2 else t)):=by
   refine(Z1L rfl (by simp) (yD X)).trans ?_;by_cases z:u=uW
   .rw[Ri z,if_pos z];rfl
   .rw[Rh z,if_neg z];rfl
  obtain⟨v,A,o,K⟩:∃v:Int,(if (if u=uW then 2 else t) > 1 then(if u=uW then 2 else t) else 1)=v/\0<v/\v<10:=⟨_,rfl,by split<;>omega,by(repeat' split)<;>omega⟩;have h:=Z38 h;rw[A]at h;obtain⟨B,U,Y⟩:=uK (dO (C:=λ_ j=>0<j) (g:=λi j=>.int (i%j)) (rS (k:=64) (f:=aD 5) (n:=N) rfl (by decide) (by decide)) h o) (QaS _ (by omega)) (by have:=QaP (N/64) o;omega);refine W8 (xs:=ds) (ys:=[.str "/",SS u,B]) rfl (pG (aM rfl (aM rfl (aM U rfl))) (by simp)) hp.flats (by simp only[Qai,QaZ];omega) ?_;have l:PA 4 (ds++[.str "/",SS u,B]):=hp.app (.cons (kF (by decide +kernel)) (.cons ⟨u,rfl,Q⟩ (.cons (Y.up (by decide)) .nil)));have p:(ds++[D.str "/",SS u,B]).length=ds.length+3:=by simp
  generalize ds++[D.str "/",SS u,B]=ds2 at l p ⊢;show Wp (rIf _ _ _ (Z0B x ds2 r i N t u)) _;have I:=Z8l (c:=λi j=>decide (j<i)) (dU (k:=5) (ac:=(Z0B x ds2 r i N t u)) (f:=aD 5) (n:=N) rfl (by decide)) (show kI 1 _=some (.int 1) from rfl)
  by_cases J:1<N%5
  .refine ZaC (I.trans (tT J)) ?_;have h:=Z38 (f:=aD 6) (v:=t) (ac:=(Z0B x ds2 r i N t u)) rfl;obtain⟨v,A,o,K⟩:∃v:Int,(if t > 1 then t else 1)=v/\0<v/\v<10:=⟨_,rfl,by split<;>omega,by split<;>omega⟩;rw[A]at h;obtain⟨M,G,E⟩:=uK (dO (C:=λ_ j=>0<j) (g:=λi j=>.int (i%j)) (rS (k:=1024) (f:=aD 5) (n:=N) rfl (by decide) (by decide)) h o) (QaS _ (by omega)) (by have:=QaP (N/1024) o;omega);refine Z3H G rfl (by omega) (hR _ ⟨_,_,_,_,_,rfl,l.app (.cons (E.up (by decide)) .nil),by simp,by simp;omega⟩)
  .exact ZaD (I.trans (tF J)) (hR _ ⟨_,_,_,_,_,rfl,l,by omega,by omega⟩)
 rintro env' ⟨a,b,c,d,ds,rfl,hp,hl0,hl⟩;rw[Qad,List.length_range]at hl;refine W8 (xs:=ds) (ys:=[.str "/",.str "outs"]) rfl rfl hp.flats (by simp only[Qai,QaZ];omega) ?_;have l:PA 4 (ds++[.str "/",.str "outs"]):=hp.app (.cons (kF (by decide +kernel)) (.cons (kF (by decide +kernel)) .nil));have p:(ds++[D.str "/",.str "outs"]).length=ds.length+2:=by simp
 generalize ds++[D.str "/",.str "outs"]=ds2 at l p ⊢;show Wp (aJ _ _ [oF (St x),oT (.int (x 1%4)),oT (.lst ds2),oT (.int (r:Int)),a,b,c,d]) _;have x4:=q 4;obtain⟨m,h,hm⟩:∃m:Nat,fIx (bO (fCs [.int 1,.int 2,.int 3,.int 1,.int 2,.int 0,.int 16,.int 17])) (fMo (fX 0 4) (kI 8)) [oF (St x),oT (.int (x 1%4)),oT (.lst ds2),oT (.int (r:Int)),a,b,c,d]=some (.int (m:Int))/\m<=17:=by
  rw[Z1L (ds:=[.int 1,.int 2,.int 3,.int 1,.int 2,.int 0,.int 16,.int 17]) rfl (by decide) (dU (f:=fX 0 4) (n:=x 4) rfl (by decide))];have g0:=QaS (x 4) (show(8:Int)≠0 by decide);have g1:=QaP (x 4) (show(0:Int)<8 by decide);generalize x 4%8=y at *
  rcases (show y=0\/y=1\/y=2\/y=3\/y=4\/y=5\/y=6\/y=7 by omega)with rfl|rfl|rfl|rfl|rfl|rfl|rfl|rfl
  .exact⟨1,rfl,by decide⟩
  .exact⟨2,rfl,by decide⟩
  .exact⟨3,rfl,by decide⟩
  .exact⟨1,rfl,by decide⟩
  .exact⟨2,rfl,by decide⟩
  .exact⟨0,rfl,by decide⟩
  .exact⟨16,rfl,by decide⟩
  .exact⟨17,rfl,by decide⟩
 refine Q6 (ds:=(List.range m).map λk:Nat=>.int (k:Int)) (qO (xs:=[.int (m:Int)]) (aM h rfl) (R7 (by omega))) (λi ac=>∃a ds,ac=[oF (St x),oT (.int (x 1%4)),oT (.lst ds),oT (.int (r:Int)),a,b,c,d]/\PA 4 ds/\0<ds.length/\ds.length<=21+i) ⟨a,_,rfl,l,by omega,by omega⟩ ?_ ?_
 .rintro i d0 ac R hd ⟨a,ds,rfl,hp,hl0,hl⟩ hR;obtain⟨hi,rfl⟩:=lZ hd;refine⟨_,rfl,?_⟩;have x5:=q 5;have h:=Z38 (ac:=[oF (St x),oT (.int (x 1%4)),oT (.lst ds),oT (.int (r:Int)),oF (.int (i:Int)),b,c,d]) (fU (g:=λi j=>.int (i+j)) (fU (g:=λi j=>.int (i+j)) (fa:=aD 1) (fb:=aD 3) (i:=x 1%4) (j:=(r:Int)) rfl rfl) (yD (kW (k:=0) (dU (k:=8) (rS (k:=8) (f:=fX 0 4) (n:=x 4) rfl (by decide) (by decide)) (by decide)))));obtain⟨v,A,o,K⟩:∃v:Int,(if x 1%4+(r:Int)+(if decide (x 4/8%8=0)=true then 1 else 0) > 1 then x 1%4+(r:Int)+(if decide (x 4/8%8=0)=true then 1 else 0) else 1)=v/\0<v/\v<10:=⟨_,rfl,by split<;>omega,by(repeat' split)<;>omega⟩;rw[A]at h;obtain⟨M,G,E⟩:=uK (dO (C:=λ_ j=>0<j) (g:=λi j=>.int (i%j)) (dO (C:=W7) (g:=λi j=>.int (i/j)) (fa:=fX 0 5) (i:=x 5) rfl (fU (g:=λi j=>.int (i+j)) (fa:=aD 4) (fb:=kI 1) (i:=(i:Int)) (j:=1) rfl rfl) (Z2e (by omega) (by omega))) h o) (QaS _ (by omega)) (by have:=QaP (x 5/((i:Int)+1)) o;omega);exact Z3H G rfl (by omega) (hR _ ⟨_,_,rfl,hp.app (.cons (E.up (by decide)) .nil),by simp,by simp;omega⟩)
 .rintro env' ⟨a,ds,rfl,hp,hl0,hl⟩;rw[Qad,List.length_range]at hl;exact Z3G rfl ⟨_,rfl,_,rfl,hp,hl0,by omega⟩
end
theorem ZaO:∀{ds:Ab D},PA k ds->∃us:Ab (Ab Nat),ds=us.map SS/\tot us<=us.length*(k+1)/\∀u∈us,∀c∈u,c<128/\c≠32
 |[],_=>⟨[],rfl,by simp[tot],λu h=>by cases h⟩
 |d::ds,h=>by
  obtain⟨us,rfl,a,b⟩:=ZaO (ds:=ds) λe he=>h e (Qaa _ he);obtain⟨u,rfl,f,i⟩:=h d Qag;refine⟨u::us,rfl,?_,λv hv=>(Qab.mp hv).elim (λz=>z ▸ f) (b v)⟩;have:tot (u::us)=(u.length+1)+tot us:=by simp[tot]
  rw[this,Qai,Nat.add_mul,Nat.one_mul];omega
section
variable {C:Af}{x:Nat->Int}
abbrev lU(x:Nat->Int)(w:Int)(d1:D)(d2:D)(d3:D):En:=[oF (St x),oT (.int w),oT (.lst [d1,d2,d3]),none,none]
def Z3c(r:∀i,0<=x i):∃d,xY C [St x]=some d/\∃us:Ab (Ab Nat),d=.lst (us.map SS)/\0<us.length/\us.length<=38/\tot us<=190/\∀u∈us,∀c∈u,c<128/\c≠32:=by
 have q:∀{k:Nat}{ds:Ab D},PA k ds->0<ds.length->ds.length<=38->ds.length*(k+1)<=190->∃us:Ab (Ab Nat),D.lst ds=.lst (us.map SS)/\0<us.length/\us.length<=38/\tot us<=190/\∀u∈us,∀c∈u,c<128/\c≠32:=λh h0 h1 h2=>by
  obtain⟨us,rfl,a,b⟩:=ZaO h;rw[Qad]at h0 h1 h2;exact⟨us,rfl,h0,h1,by omega,b⟩
 refine E4 ?_;show Wp (yF C [oF (St x),none,none,none,none]) _;unfold yF;refine gW (d:=.int (x 0%9)) (dU rfl (by decide)) ?_;obtain⟨l,T,v⟩:=rB (C:=C) (r 2) (r 3);obtain⟨p,Z,p3⟩:=rB (C:=C) (r 5) (r 6);have X:=r 4;obtain⟨o,e2,p2⟩:=uK (ac:=[oF (St x),oT (.int (x 0%9)),none,none,none]) (fU (g:=λi j=>.int (i+j)) (dU (k:=2) (f:=fX 0 4) (n:=x 4) rfl (by decide)) (yD (kW (k:=0) (dU (k:=8) (rS (k:=2) (f:=fX 0 4) (n:=x 4) rfl (by decide) (by decide)) (by decide))))) (by split<;>omega) (by split<;>omega);have p2:=p2.up (k':=10) (by decide);have B:PA 10 [l,o,p]:=.cons v (.cons p2 (.cons p3 .nil));refine gW (d:=.lst [l,o,p]) (pG (aM (aQ (xs:=[.int (x 2),.int (x 3)]) rfl T) (aM e2 (aM (aQ (xs:=[.int (x 5),.int (x 6)]) rfl Z) rfl))) (by simp)) ?_;have w0:=r 0;generalize hw:x 0%9=w;have hw:0<=w/\w<9:=by omega
 show Wp (aJ _ _ (lU x w l o p)) _;have t:∀k:Int,fEq (aD 1) (fC (.int k)) (lU x w l o p)=some (decide (w=k)):=λk=>kW rfl;by_cases h3:w<3
 .refine gX ((Z8l rfl rfl).trans (tT h3)) ?_;obtain⟨_,e,ds,rfl,h1,h2,y⟩:=Z7G (C:=C) r;exact fH (aQ (xs:=[St x]) rfl e) ⟨_,rfl,q h1 h2 y (by omega)⟩
 refine wNo ((Z8l rfl rfl).trans (tF h3)) ?_;have x1:=r 1;have I:=dU (ac:=(lU x w l o p)) (k:=4) (f:=fX 0 1) (n:=x 1) rfl (by decide);obtain⟨P,O,pl⟩:=uK (dU (ac:=(lU x w l o p)) (k:=2) (f:=fX 0 1) (n:=x 1) rfl (by decide)) (by omega) (by omega);have pl:=pl.up (k':=10) (by decide);have E:bD (fX 2 0) (lU x w l o p)=some l:=v.fl rfl;have N:∀{fl fh:En->Aa (Aa Int)}{lo hi:Aa Int},fl (lU x w l o p)=some lo->fh (lU x w l o p)=some hi->fSl (aD 2) fl fh (lU x w l o p)=some (.lst (cutD [l,o,p] lo hi)):=λa b=>by
  unfold fSl;rw[a,b];exact if_pos B.flats
 by_cases y:w=3
 .refine gX ((t 3).trans (tT y)) ?_;obtain⟨A,e0,F⟩:=Z05 (ds:=[.str "give",.str "faults",.str "idle",.str "lean"]) (w:=10) (fs:=aA (kS "give") (aA (kS "faults") (aA (kS "idle") (aA (kS "lean") aF)))) rfl (by decide) (.cons (kF (by decide +kernel)) (.cons (kF (by decide +kernel)) (.cons (kF (by decide +kernel)) (.cons (kF (by decide +kernel)) .nil)))) I (by omega) (by show x 1%4<4;omega);have Q:PA 10 [A,l]:=.cons F (.cons v .nil);have S:=pG (ds:=[A,l]) (aM (F.fl e0) (aM E (show aF _=some [] from rfl))) (by simp)
  have W:fP (fAd (kI 1) (fB1 oV (aA (dH (fEq (fMo (fX 0 1) (kI 4)) (kI 0))) aF))) (lU x w l o p)=some (some (1+if decide (x 1%4=0)=true then 1 else 0)):=Z9H (fU rfl (yD (kW I)));refine fH (d:=.lst (if x 1%4=0 then[A,l] else[A])) ?_ ⟨_,rfl,?_⟩
  .unfold fSl;rw[S,W];refine(if_pos Q.flats).trans ?_;by_cases z:x 1%4=0
   .rw[Ri z,if_pos z];rfl
   .rw[Rh z,if_neg z];rfl
  .split
   .exact q Q (by simp) (by simp) (by simp)
   .exact q (PA.cons F .nil) (by simp) (by simp) (by simp)
 refine wNo ((t 3).trans (tF y)) ?_;by_cases L:w=4
 .refine gX ((t 4).trans (tT L)) ?_;refine fH (d:=.lst [.str "stuck",l,o,p]) ?_ ⟨_,rfl,q (PA.cons (kF (by decide +kernel)) B) (by simp) (by simp) (by simp)⟩;rw[Z4D];exact if_pos ⟨⟨rfl,B.flats⟩,by simp⟩
 refine wNo ((t 4).trans (tF L)) ?_;by_cases J:w=5
 .refine gX ((t 5).trans (tT J)) ?_;refine fH (d:=.lst [.str "leg",l,P,o,p]) ?_ ⟨_,rfl,q (PA.cons (kF (by decide +kernel)) (.cons v (.cons pl (.cons p2 (.cons p3 .nil))))) (by simp) (by simp) (by simp)⟩;rw[M4,pG (ds:=[.str "leg",l,P]) (aM rfl (aM E (aM O (show aF _=some [] from rfl)))) (by simp),N (lo:=some 1) (hi:=none) rfl rfl]
  rfl
 refine wNo ((t 5).trans (tF J)) ?_;by_cases K:w=6
 .refine gX ((t 6).trans (tT K)) ?_;refine fH (d:=.lst [.str "tells",l,o]) ?_ ⟨_,rfl,q (PA.cons (kF (by decide +kernel)) (.cons v (.cons p2 .nil))) (by simp) (by simp) (by simp)⟩;rw[M4,N (lo:=none) (hi:=some 2) rfl rfl];rfl
 refine wNo ((t 6).trans (tF K)) ?_;by_cases M:w=7
 .refine gX ((t 7).trans (tT M)) ?_;exact fH (pG (aM rfl (aM E (aM O (aM (p2.fl rfl) rfl)))) (by simp)) ⟨_,rfl,q (PA.cons (kF (s := "tells") (by decide +kernel)) (.cons v (.cons pl (.cons p2 .nil)))) (by simp) (by simp) (by simp)⟩
 refine wNo ((t 7).trans (tF M)) ?_;refine gW (d:=.lst [.str "named"]) rfl ?_;show Wp (aJ _ _ [oF (St x),oT (.int w),oT (.lst [l,o,p]),oT (.lst [.str "named"]),none]) _;obtain⟨m,Y⟩:∃m:Nat,1+x 1%3=(m:Int):=⟨(1+x 1%3).toNat,by omega⟩;refine Q6 (ds:=(List.range m).map λk:Nat=>.int (k:Int)) (qO (xs:=[.int (m:Int)]) (aM ((fU rfl (dU (f:=fX 0 1) (n:=x 1) rfl (by decide))).trans (by rw[Y])) rfl) (R7 (by omega))) (λi ac=>∃a ds,ac=[oF (St x),oT (.int w),oT (.lst [l,o,p]),oT (.lst ds),a]/\PA 10 ds/\0<ds.length/\ds.length<=1+2*i) ⟨none,_,rfl,.cons (kF (by decide +kernel)) .nil,by simp,by simp⟩ ?_ ?_
 .rintro i d ac R hd ⟨a,ds,rfl,hp,hl0,hl⟩ hR;obtain⟨hi,rfl⟩:=lZ hd;refine⟨_,rfl,?_⟩;have x2:=r 2;have q2:0<=x 2/((i:Int)+1):=Int.ediv_nonneg x2 (by omega);have q4:0<=x 4/((i:Int)+1):=Int.ediv_nonneg X (by omega);obtain⟨dn,U,pn⟩:=rB (C:=C) q2 (r 3);have H:∀{f:En->Aa D}{n:Int},f [oF (St x),oT (.int w),oT (.lst [l,o,p]),oT (.lst ds),oF (.int (i:Int))]=some (.int n)->fDv f (fAd (aD 4) (kI 1)) [oF (St x),oT (.int w),oT (.lst [l,o,p]),oT (.lst ds),oF (.int (i:Int))]=some (.int (n/((i:Int)+1))):=λh=>dO h (fU rfl rfl) (Z2e (by omega) (by omega));obtain⟨db,eb,G⟩:=Z05 (ds:=[.str "0",.str "1",.str "0",.str "1",.str "01"]) (w:=10) (fs:=aA (kS "0") (aA (kS "1") (aA (kS "0") (aA (kS "1") (aA (kS "01") aF))))) rfl (by decide) (.cons (kF (by decide +kernel)) (.cons (kF (by decide +kernel)) (.cons (kF (by decide +kernel)) (.cons (kF (by decide +kernel)) (.cons (kF (by decide +kernel)) .nil))))) (dU (k:=5) (H (f:=fX 0 4) (n:=x 4) rfl) (by decide)) (by omega) (by show x 4/((i:Int)+1)%5<5;omega);refine Z6s (xs:=ds) (ys:=[dn,db]) rfl (pG (aM (aQ (xs:=[.int (x 2/((i:Int)+1)),.int (x 3)]) (aM (H rfl) rfl) U) (aM (G.fl eb) rfl)) (by simp)) hp.flats (by simp;omega) (hR _ ⟨_,_,rfl,hp.app (.cons pn (.cons G .nil)),by simp,by simp;omega⟩)
 .rintro env' ⟨a,ds,rfl,hp,hl0,hl⟩;rw[Qad,List.length_range]at hl;exact Z3G rfl ⟨_,rfl,q hp hl0 (by omega) (by omega)⟩
end
def oddL:Ab D:=[.str "",.str "00",.str "01",.str "+1",.str "-1",.str "1_0",.str "2",.str "/",.str "ins",.str "outs",.str "fix",.str "A",.str "0",.str "1",.str "x",.str "1000000000",.str "9"]++[.str "not",.str "and",.str "10",.str "new",.str "none",.str "give",.str "-0",.str "0x1",.str "016"]
def Z9M:PA 10 oddL:=by
 have:∀s∈(["","00","01","+1","-1","1_0","2","/","ins","outs","fix","A","0","1","x","1000000000","9","not","and","10","new","none","give","-0","0x1","016"]:Ab Str),okS 10 s=true:=by decide +kernel
 intro d hd;obtain⟨s,hs,rfl⟩:=Qa1.mp (show d∈(["","00","01","+1","-1","1_0","2","/","ins","outs","fix","A","0","1","x","1000000000","9","not","and","10","new","none","give","-0","0x1","016"]:Ab Str).map D.str from hd)
 exact kF (this s hs)
def Z7F:∃d,lK C [.int n]=some d/\PT 10 d:=by
 refine E4 ?_;show Wp (pJ C [oF (.int n),none]) _;unfold pJ;refine gW rfl (W8 (xs:=oddL.take 17) (ys:=oddL.drop 17) rfl rfl rfl (by decide) ?_);show Wp (aZ _ [oF (.int n),oT (.lst oddL)]) _;have b:fMo (aD 0) (fB1 bF (aA (aD 1) aF)) [oF (.int n),oT (.lst oddL)]=some (.int (n%26)):=dO (i:=n) (j:=26) rfl rfl (by decide);have g0:=QaS n (show(26:Int)≠0 by decide);have l:=QaP n (show(0:Int)<26 by decide);obtain⟨j,f⟩:=Qa7 g0;have h:oddL.length=26:=rfl;have a:j<oddL.length:=by omega
 have p:=Z9M _ (Qbr a);refine Z2y (p.fl ?_) ⟨_,rfl,p⟩;rw[f]at b;exact(Zc8 rfl b).trans (nO (Qam a))
section
variable {us:Ab (Ab Nat)}{ac:En}{fa:En->Aa D}{n:Nat}
def ZcN(h:fa ac=some (.lst (us.map SS)))(a:fh ac=some (some (n:Int))):fSl fa cR fh ac=some (.lst ((us.take n).map SS)):=by
 unfold fSl;rw[h,a];refine(if_pos (mX us)).trans ?_;unfold PD.cutD;rw[HT.sIx_nat];show some (D.lst (((us.map SS).drop 0).take (min n (us.map SS).length-0)))=_;rw[List.drop_zero,Nat.sub_zero,List.map_take,<- List.take_eq_take_min]
def Z3N(h:fa ac=some (.lst (us.map SS)))(b:fl ac=some (some (n:Int))):fSl fa fl cR ac=some (.lst ((us.drop n).map SS)):=by
 unfold fSl;rw[h,b];refine(if_pos (mX us)).trans ?_;unfold PD.cutD;rw[HT.sIx_nat];show some (D.lst (((us.map SS).drop (min n (us.map SS).length)).take ((us.map SS).length-min n (us.map SS).length)))=_;rw[Qbl (by rw[Qa2];exact Qap _),List.map_drop];congr 2;by_cases a:n<=(us.map SS).length
 .rw[Nat.min_eq_left a]
 .rw[Nat.min_eq_right (by omega),List.drop_length,List.drop_eq_nil_of_le (by omega)]
end
def Wz(us:Ab (Ab Nat)):Prop:=∀u∈us,∀c∈u,c<128/\c≠32
def Z8D(us:Ab (Ab Nat))(n:Nat):tot (us.take n)+tot (us.drop n)=tot us/\tot (us.drop (n+1))<=tot (us.drop n):=by
 refine⟨by rw[<- iA,List.take_append_drop],?_⟩;rw[<- List.drop_drop];cases us.drop n with
 |nil=>exact Qap _
 |cons u vs=>show tot vs<=tot (u::vs);simp[tot]
abbrev jZ(us:Ab (Ab Nat))(x:Nat->Int)(n:Nat):En:=[oF (.lst (us.map SS)),oF (St x),oT (.int (n:Int))]
theorem wC(hx:∀i,0<=x i){us:Ab (Ab Nat)}(h0:0<us.length)(h1:us.length<=38)(h2:tot us<=190)(hw:Wz us):∃d,jP C [.lst (us.map SS),St x]=some d/\∃vs:Ab (Ab Nat),d=.lst (vs.map SS)/\vs.length<=39/\tot vs<=390/\Wz vs:=by
 refine E4 ?_;show Wp (jR C [oF (.lst (us.map SS)),oF (St x),none]) _;unfold jR;have x8:=hx 8;have g0:=QaS (x 8) (show(us.length:Int)≠0 by omega);have g1:=QaP (x 8) (show(0:Int)<(us.length:Int) by omega);obtain⟨n,hn⟩:=Qa7 g0;refine gW (d:=.int (n:Int)) ((dO (i:=x 8) rfl (uT rfl) (by omega)).trans (by rw[hn])) ?_;show Wp (aJ _ _ (jZ us x n)) _;have hnl:n<us.length:=by omega
 have c9:∀k:Int,fEq (fI2 (λ_ j=>0<j) (λi j=>.int (i%j)) (fIx (aD 1) (fC (.int 9))) (fC (.int 3))) (fC (.int k)) (jZ us x n)=some (decide (x 9%3=k)):=λk=>kW (dU rfl (by decide));have eT:=ZcN (us:=us) (n:=n) (fa:=aD 0) (fh:=fP (aD 2)) (ac:=(jZ us x n)) rfl rfl;have eD:=Z3N (us:=us) (n:=n+1) (fa:=aD 0) (fl:=fP (fI0 (λi j=>.int (i+j)) (aD 2) (fC (.int 1)))) (ac:=(jZ us x n)) rfl (Z9H (fU (g:=λi j=>.int (i+j)) (i:=(n:Int)) (j:=1) rfl rfl));have eE:=Z3N (us:=us) (n:=n) (fa:=aD 0) (fl:=fP (aD 2)) (ac:=(jZ us x n)) rfl rfl;obtain⟨t1,t2⟩:=Z8D us n;have cat:∀{fa fb:En->Aa D}{as bs:Ab (Ab Nat)},fa (jZ us x n)=some (.lst (as.map SS))->fb (jZ us x n)=some (.lst (bs.map SS))->as.length<=100->bs.length<=100->qG fa fb (jZ us x n)=some (.lst ((as++bs).map SS)):=λa b ha hb=>by
  rw[M4,a,b];dsimp only;rw[if_pos (by rw[Qad,Qad];omega),QaT]
 have lT:(us.take n).length=n:=by rw[QaV];omega
 have lD:(us.drop (n+1)).length=us.length-(n+1):=Qa2;have lE:(us.drop n).length=us.length-n:=Qa2;have wT:Wz (us.take n):=λu hu=>hw u (List.mem_of_mem_take hu);have wD:∀m,Wz (us.drop m):=λm u hu=>hw u (List.mem_of_mem_drop hu);have wA:∀{as bs:Ab (Ab Nat)},Wz as->Wz bs->Wz (as++bs):=λha hb u hu=>(Qaf.mp hu).elim (ha u) (hb u);by_cases k0:x 9%3=0
 .refine gX ((c9 0).trans (tT k0)) ?_;exact fH (cat eT eD (by omega) (by omega)) ⟨_,rfl,_,rfl,by rw[Qaj];omega,by rw[iA];omega,wA wT (wD _)⟩
 refine wNo ((c9 0).trans (tF k0)) ?_;by_cases k1:x 9%3=1
 .refine gX ((c9 1).trans (tT k1)) ?_;have e1:bO (aA (bD (fIx (aD 0) (aD 2))) aF) (jZ us x n)=some (.lst ([us[n]].map SS)):=pG (aM (by
   rw[lR,jH];show(match atI (us.map SS) (n:Int) with|some d=>if flat d=true then some d else none|none=>none)=_
   rw[nO (v:=SS us[n]) (by rw[Qax,Qam hnl];rfl)];rfl) rfl) (by simp)
  have hd:us.drop n=us[n]::us.drop (n+1):=Qbe hnl;have ht:tot [us[n]]<=tot us:=by rw[<- t1,hd,show us[n]::us.drop (n+1)=[us[n]]++us.drop (n+1) from rfl,iA];omega
  exact fH (cat (cat eT e1 (by omega) (by simp)) eE (by rw[Qaj];simp;omega) (by omega)) ⟨_,rfl,_,rfl,by rw[Qaj,Qaj];simp only[QaG];omega,by rw[iA,iA];omega,wA (wA wT λu hu=>by rw[Qaq.mp hu];exact hw _ (Qbr hnl)) (wD _)⟩
 refine wNo ((c9 1).trans (tF k1)) ?_;obtain⟨_,eo,u,rfl,hu,hul⟩:=Z7F (C:=C) (n:=x 10);have e1:bO (aA (aL (lK C) [] (aA (fIx (aD 1) (fC (.int 10))) aF)) aF) (jZ us x n)=some (.lst ([u].map SS)):=pG (aM (aQ (xs:=[.int (x 10)]) rfl eo) rfl) (by simp);exact Z2y (cat (cat eT e1 (by omega) (by simp)) eD (by rw[Qaj];simp;omega) (by omega)) ⟨_,rfl,_,rfl,by rw[Qaj,Qaj];simp only[QaG];omega,by rw[iA,iA,A8];omega,wA (wA wT λv hv=>by rw[Qaq.mp hv];exact hu) (wD _)⟩
def GL(n m:Nat)(l:Ab Nat):Prop:=(∀c∈l,c<128)/\l.length<=n/\l.count 32<=m
def Z7R(hw:Wz us):GL (tot us) us.length (jn us):=by
 refine⟨λc hc=>?_,Z7I us,?_⟩
 .cases us with
  |nil=>cases hc
  |cons w ws =>
   rcases Qaf.mp hc with z|z
   .exact(hw w Qag c z).1
   .obtain⟨v,a,f⟩:=List.mem_flatMap.mp z;rcases Qab.mp f with rfl|q
    .decide
    .exact(hw v (Qaa _ a) c q).1
 .have h:∀{u:Ab Nat},u∈us->u.count 32=0:=λb=>List.count_eq_zero.mpr λz=>(hw _ b 32 z).2 rfl;have:∀vs:Ab (Ab Nat),(∀v∈vs,v∈us)->(vs.flatMap λv=>32::v).count 32=vs.length:=λvs=>by
   induction vs with
   |nil=>intro _;rfl
   |cons v vs ih =>
    intro a;rw[List.flatMap_cons,QaX,ih λu b=>a u (Qaa _ b),List.count_cons_self,h (a v Qag),Qai];omega
  cases us with
  |nil=>exact QaY _
  |cons w ws =>
   show(w++ws.flatMap λv=>32::v).count 32<=_;rw[QaX,h Qag,this ws λv a=>Qaa _ a,Qai];omega
def Z9V(a b:Ab Nat):mkS a++mkS b=mkS (a++b):=sC (by
 show(a.toArray++b.toArray).toList=(mkS (a++b)).cps.toList;rw[cP];simp)
section
variable {l:Ab Nat}{ac:En}{fa:En->Aa D}{n:Nat}
def Zbh(a:l.length<=1000)(f:n<=l.length)(h:fa ac=some (SS l))(b:fh ac=some (some (n:Int))):wN fa cR fh ac=some (SS (l.take n)):=by
 unfold wN;rw[h,b];show(if (mkS l).length<=1000 then some (D.str (Txt.slice (mkS l) none (some (n:Int)))) else none)=_;rw[fQ,if_pos a,beq_iff_eq.mp (slice_closes_toL (x:=mkS l) (j:=(n:Int)) (by omega) (by rw[fQ];omega)),cP];simp[SS,mkS]
def Z15(a:l.length<=1000)(h:fa ac=some (SS l))(f:fl ac=some (some (n:Int))):wN fa fl cR ac=some (SS (l.drop n)):=by
 unfold wN;rw[h,f];show(if (mkS l).length<=1000 then some (D.str (Txt.slice (mkS l) (some (n:Int)) none)) else none)=_;rw[fQ,if_pos a];by_cases j:n<=l.length
 .rw[slice_from_eq (x:=mkS l) (i:=(n:Int)) (b:=(l.length:Int)) (by omega) (by rw[fQ];omega) (by rw[fQ]),cP];unfold SS mkS;congr 3;rw[Qbl (by rw[Qa2];omega)];simp
 .rw[slice_beyond (by rw[fQ];omega),List.drop_eq_nil_of_le (by omega)];rfl
end
abbrev nN(l:Ab Nat)(x:Nat->Int)(z:Str)(c:Nat)(a:Nat):En:=[oF (SS l),oF (St x),oT (.str z),oT (SS [c]),oT (.int (a:Int))]
def xZ(J:∀i,0<=x i){l:Ab Nat}{n m:Nat}(h:GL n m l)(W:n<=300):∃d,kQ C [SS l,St x]=some d/\∃l',d=SS l'/\GL (n+1) (m+1) l':=by
 refine E4 ?_;show Wp (kT C [oF (SS l),oF (St x),none,none,none]) _;unfold kT;refine gW (d:=.str " /-0123456789adfinost") rfl ?_;refine ZdM (λe=>∃z:Str,e=[oF (SS l),oF (St x),oT (.str z),none,none]/\(z.cps.toList.all (λc=>decide (c<128))&&decide (0<z.length)&&decide (z.length<=1000))=true) ?_ ?_
 .have c:fEq (fMo (fX 1 11) (kI 4)) (kI 0) [oF (SS l),oF (St x),oT (.str " /-0123456789adfinost"),none,none]=some (decide (x 11%4=0)):=kW (dU rfl (by decide));by_cases A:x 11%4=0
  .exact ZaC (c.trans (tT A)) ⟨_,rfl,_,rfl,by decide +kernel⟩
  .exact ZaD (c.trans (tF A)) ⟨_,rfl,_,rfl,by decide +kernel⟩
 rintro e ⟨z,rfl,hz⟩;simp only[Qak,Qaz,Rj]at hz;obtain⟨⟨w,M⟩,u⟩:=hz;have N:z.cps.toList.length=z.length:=by simp[Str.length]
 have L:fB1 bF (aA (aD 2) aF) [oF (SS l),oF (St x),oT (.str z),none,none]=some (.int (z.length:Int)):=cU (xs:=[.str z]) rfl (if_pos u);have g0:=QaS (x 10) (show(z.length:Int)≠0 by omega);have Y:=QaP (x 10) (show(0:Int)<(z.length:Int) by omega);obtain⟨j,I⟩:=Qa7 g0;have t:j<z.cps.toList.length:=by omega
 have hc:=w _ (Qbr t);generalize hcc:z.cps.toList[j]=c at hc;have B:=dO (C:=λ_ j=>0<j) (g:=λi j=>.int (i%j)) (fa:=fX 1 10) (i:=x 10) rfl L (by omega);rw[I]at B;refine gW (Zc7 rfl u B (by rw[Qam t,hcc])) ?_;have X:=J 8;have k0:=QaS (x 8) (show(l.length:Int)+1≠0 by omega);have k1:=QaP (x 8) (show(0:Int)<(l.length:Int)+1 by omega);obtain⟨a,H⟩:=Qa7 k0;have R:=h.2.1;refine gW (d:=.int (a:Int)) ((dO (i:=x 8) rfl (fU (cU (xs:=[SS l]) rfl (Z4j ⟨h.1,by omega⟩)) rfl) (by omega)).trans (by rw[H])) ?_;show Wp (aJ _ _ (nN l x z c a)) _;have r:∀k:Int,fEq (fMo (fX 1 9) (kI 3)) (fC (.int k)) (nN l x z c a)=some (decide (x 9%3=k)):=λk=>kW (dU rfl (by decide));have G:=Zbh (l:=l) (n:=a) (fa:=aD 0) (fh:=fP (aD 4)) (ac:=(nN l x z c a)) (by omega) (by omega) rfl rfl;have F:=Z15 (l:=l) (n:=a+1) (fa:=aD 0) (fl:=fP (fAd (aD 4) (kI 1))) (ac:=(nN l x z c a)) (by omega) rfl (Z9H (fU (g:=λi j=>.int (i+j)) (i:=(a:Int)) (j:=1) rfl rfl));have K:=Z15 (l:=l) (n:=a) (fa:=aD 0) (fl:=fP (aD 4)) (ac:=(nN l x z c a)) (by omega) rfl rfl;have o:∀{fa fb:En->Aa D}{p q:Ab Nat},fa (nN l x z c a)=some (SS p)->fb (nN l x z c a)=some (SS q)->p.length<=1000->q.length<=1000->wP fa fb (nN l x z c a)=some (SS (p++q)):=λhp hq lp lq=>by
  rw[Zai,hp,hq];show(if (mkS _).length+(mkS _).length<=5000 then some (D.str (mkS _++mkS _)) else none)=_;rw[fQ,fQ,if_pos (by omega),Z9V];rfl
 have U:(l.take a).length=a:=by rw[QaV];omega
 have Q:(l.drop (a+1)).length=l.length-(a+1):=Qa2;have P:(l.drop a).length=l.length-a:=Qa2;have sub:(l.drop (a+1)).Sublist (l.drop a):=by rw[<- List.drop_drop];exact List.drop_sublist _ _
 have O:(l.take a).count 32+(l.drop a).count 32=l.count 32:=by rw[<- QaX,List.take_append_drop]
 have S:=sub.count_le 32;have T:=h.2.2;have c1:[c].count 32<=1:=List.count_le_length;have b:∀{y:Nat},y∈l.take a\/y∈l.drop (a+1)\/y∈l.drop a->y<128:=λf=>by
  rcases f with q|q|q
  .exact h.1 _ (List.mem_of_mem_take q)
  .exact h.1 _ (List.mem_of_mem_drop q)
  .exact h.1 _ (List.mem_of_mem_drop q)
 by_cases q0:x 9%3=0
 .refine gX ((r 0).trans (tT q0)) ?_;exact fH (o G F (by omega) (by omega)) ⟨_,rfl,_,rfl,λy f=>(Qaf.mp f).elim (λz=>b (.inl z)) λz=>b (.inr (.inl z)),by rw[Qaj];omega,by rw[QaX];omega⟩
 refine wNo ((r 0).trans (tF q0)) ?_;have v:=o G (show aD 3 _=some (SS [c]) from rfl) (by omega) (by simp)
 by_cases E:x 9%3=1
 .refine gX ((r 1).trans (tT E)) ?_;exact fH (o v F (by rw[Qaj];simp;omega) (by omega)) ⟨_,rfl,_,rfl,λy f=>by
   rcases Qaf.mp f with q|q
   .rcases Qaf.mp q with q|q
    .exact b (.inl q)
    .rw[Qaq.mp q];exact hc
   .exact b (.inr (.inl q)),by rw[Qaj,Qaj];simp only[QaG];omega,by rw[QaX,QaX];omega⟩
 refine wNo ((r 1).trans (tF E)) ?_;exact Z2y (o v K (by rw[Qaj];simp;omega) (by omega)) ⟨_,rfl,_,rfl,λy f=>by
  rcases Qaf.mp f with q|q
  .rcases Qaf.mp q with q|q
   .exact b (.inl q)
   .rw[Qaq.mp q];exact hc
  .exact b (.inr (.inr q)),by rw[Qaj,Qaj];simp only[QaG];omega,by rw[QaX,QaX];omega⟩
def Z5I(o:∀i,0<=x i):∃d,J8 C [St x]=some d/\∃l,d=SS l/\GL 390 60 l:=by
 refine E4 ?_;show Wp (L6 C [oF (St x),none]) _;unfold L6;obtain⟨_,r,us,rfl,u,h1,h2,h3⟩:=Z3c (C:=C) o;refine gW (aQ (xs:=[St x]) rfl r) ?_;show Wp (aJ _ _ [oF (St x),oT (.lst (us.map SS))]) _;have f:∀k:Int,fEq (fMo (fX 0 7) (kI 4)) (fC (.int k)) [oF (St x),oT (.lst (us.map SS))]=some (decide (x 7%4=k)):=λk=>kW (dU rfl (by decide));have len:∀{vs:Ab (Ab Nat)},tot vs<=390->∀v∈vs,v.length<=400:=λht v hv=>by
  obtain⟨s,t,rfl⟩:=List.append_of_mem hv;rw[iA,show v::t=[v]++t from rfl,iA,A8]at ht;omega
 have up:∀{n m:Nat}{l:Ab Nat},GL n m l->n<=390->m<=60->GL 390 60 l:=λh a b=>⟨h.1,Qay h.2.1 a,Qay h.2.2 b⟩;by_cases q0:x 7%4=0
 .refine gX ((f 0).trans (tT q0)) ?_;obtain⟨_,j,vs,rfl,k1,k2,k3⟩:=wC (C:=C) o u h1 h2 h3;exact fH (K5 (len k2) (by omega) (aQ (xs:=[.lst (us.map SS),St x]) rfl j)) ⟨_,rfl,_,rfl,up (Z7R k3) k2 (by omega)⟩
 refine wNo ((f 0).trans (tF q0)) ?_;have p:=K5 (ac:=[oF (St x),oT (.lst (us.map SS))]) (fa:=aD 1) (len (by omega)) (by omega) rfl;by_cases q:x 7%4=1
 .refine gX ((f 1).trans (tT q)) ?_;obtain⟨_,j,w,rfl,k⟩:=xZ (C:=C) o (Z7R h3) (by omega);exact fH (aQ (xs:=[SS (jn us),St x]) (aM p rfl) j) ⟨_,rfl,_,rfl,up k (by omega) (by omega)⟩
 refine wNo ((f 1).trans (tF q)) ?_;exact Z2y p ⟨_,rfl,_,rfl,up (Z7R h3) (by omega) (by omega)⟩
def wSR(q:Wp (aJ g h ac) (Rt P)):Wp (aJ (aJ g h) k ac) (Rt P):=by
 obtain⟨d,e,p⟩:=q;exact⟨d,zO e,p⟩
def ZaF(a:xs.length=12)(h:∀y∈xs,0<=y):∃x:Nat->Int,LI xs=St x/\∀i,0<=x i:=by
 refine⟨λi=>xs.getD i 0,congrArg LI ?_,λi=>?_⟩
 .refine List.ext_getElem (by simp[a]) λi h1 h2=>?_;simp[List.getD_eq_getElem?_getD,h1]
 .show 0<=xs.getD i 0;rw[List.getD_eq_getElem?_getD];cases e:xs[i]? with
  |none=>exact Int.le_refl _
  |some y=>exact h y (QaE e)
abbrev Z0H(c:Int)(k:Int)(xs:Ab Int)(i:Nat):En:=[oF (.int c),oF (.int k),oT (LI xs),oF (.int (i:Int)),none]
def Z1I(r:0<=k)(u:k<100):∃d,uS C [.int c,.int k]=some d/\∃x:Nat->Int,d=St x/\∀i,0<=x i:=by
 refine E4 ?_;show Wp (vA C [oF (.int c),oF (.int k),none,none,none]) _;unfold vA;refine gW (d:=.lst []) rfl ?_;show Wp (aJ _ _ [oF (.int c),oF (.int k),oT (.lst []),none,none]) _;have b:∀ac,fPw (kI 10) (kI 40) ac=some (.int (10^40)):=λac=>dO (i:=10) (j:=40) rfl rfl ⟨by decide,by decide,by decide⟩;have l:fBI (λi j=>decide (j<=i)) (aD 0) (fPw (kI 10) (kI 40)) [oF (.int c),oF (.int k),oT (.lst []),none,none]=some (decide (10^40<=c)):=by
  rw[lF,b];rfl
 have app:∀{xs:Ab Int}{v:Int},LI xs=.lst (xs.map D.int)/\D.lst (xs.map D.int++[.int v])=LI (xs++[v]):=λ{xs v}=>⟨rfl,by simp[LI]⟩;by_cases h:10^40<=c
 .refine gX (l.trans (by rw[Ri h])) (wSR ?_);refine Q6 (ds:=(List.range 12).map λk:Nat=>.int (k:Int)) (qO (xs:=[.int 12]) rfl (R7 (n:=12) (by decide))) (λi ac=>∃a xs,ac=[oF (.int c),oF (.int k),oT (LI xs),a,none]/\xs.length=i/\∀y∈xs,0<=y) ⟨none,[],rfl,rfl,λy hy=>by cases hy⟩ ?_ ?_
  .rintro i d ac R hd ⟨a,xs,rfl,hl,hx⟩ hR;obtain⟨hi,rfl⟩:=lZ hd;refine⟨_,rfl,?_⟩;have s1:=dO (ac:=(Z0H c k xs i)) (C:=Z2u) (g:=λi j=>.int (i*2^j.toNat)) (fa:=kI 1) (i:=1) rfl (dO (C:=IntMulOk) (g:=λi j=>.int (i*j)) (fa:=kI 27) (fb:=aD 3) (i:=27) (j:=(i:Int)) rfl rfl (vY (by decide) (by decide))) (ZaY (by omega) (by omega));have p:=dO (ac:=(Z0H c k xs i)) (C:=Z2u) (g:=λi j=>.int (i*2^j.toNat)) (fa:=kI 1) (fb:=kI 27) (i:=1) (j:=27) rfl rfl (ZaY (by decide) (by decide));have o:=dO (C:=W7) (g:=λi j=>.int (i/j)) (fU (g:=λi j=>.int (i-j)) (fa:=aD 0) (i:=c) rfl (b (Z0H c k xs i))) s1 (Z8f (by omega));refine Z3H (ds:=xs.map D.int) (dO o p (by decide)) rfl (by rw[Qad];omega) (hR _ ⟨_,xs++[_],by rw[<- app.2];rfl,by simp[hl],λy hy=>?_⟩);rcases Qaf.mp hy with z|z
   .exact hx y z
   .rw[Qaq.mp z];exact QaS _ (by decide)
  .rintro env' ⟨a,xs,rfl,hl,hx⟩;exact Z3G rfl ⟨_,rfl,ZaF hl hx⟩
 refine wNo (l.trans (by rw[Rh h])) ?_;refine gW (dO (fU (fU (dO (i:=c) rfl rfl (Z09 (by decide) (by decide))) (dO (dO (i:=7919) (j:=k) rfl rfl (vY (by decide) (by decide))) (j:=k) rfl (Z09 (by omega) (by omega)))) (j:=k) rfl) (j:=2147483647) rfl (by decide)) ?_;refine Q6 (ds:=(List.range 12).map λk:Nat=>.int (k:Int)) (qO (xs:=[.int 12]) rfl (R7 (n:=12) (by decide))) (λi ac=>∃a xs v,ac=[oF (.int c),oF (.int k),oT (LI xs),a,oT (.int v)]/\xs.length=i/\(∀y∈xs,0<=y)/\0<=v/\v<2147483648) ⟨none,[],_,rfl,rfl,λy hy=>(by cases hy),QaS _ (by decide),Int.lt_trans (QaP _ (by decide)) (by decide)⟩ ?_ ?_
 .rintro i d ac R hd ⟨a,xs,v,rfl,hl,hx,v0,v1⟩ hR;obtain⟨hi,rfl⟩:=lZ hd;refine⟨_,rfl,?_⟩;refine gW (dO (fU (fU (dO (i:=v) (j:=v) rfl rfl (vY (by omega) (by omega))) (dO (i:=7) (j:=(i:Int)) rfl rfl (vY (by decide) (by decide)))) (j:=1) rfl) (j:=2147483629) rfl (by decide)) ?_;have f:=QaS (v*v+7*(i:Int)+1) (show(2147483629:Int)≠0 by decide);have q:=QaP (v*v+7*(i:Int)+1) (show(0:Int)<2147483629 by decide);generalize (v*v+7*(i:Int)+1)%2147483629=t at f q ⊢;show Wp (kD _ _ [oF (.int c),oF (.int k),oT (LI xs),oF (.int (i:Int)),oT (.int t)]) _;refine Z3H (ds:=xs.map D.int) (dO (dO (dO (i:=t) (j:=69621) rfl rfl (Z09 (by decide) (by decide))) (j:=2147483587) rfl (by decide)) (j:=16) rfl (Z2e (by decide) (by decide))) rfl (by rw[Qad];omega) (hR _ ⟨_,xs++[_],t,by rw[<- app.2];rfl,by simp[hl],λy hy=>?_,f,by omega⟩);rcases Qaf.mp hy with z|z
  .exact hx y z
  .rw[Qaq.mp z];exact Int.ediv_nonneg (QaS _ (by decide)) (by decide)
 .rintro env' ⟨a,xs,v,rfl,hl,hx,_⟩;exact Z3G rfl ⟨_,rfl,ZaF hl hx⟩
def Z5h(h1:f ac=some (.obj C ns ds))(hp:pln (.obj C ns ds)=true)(h2:∀a,∃w',H a (ac.set i (some (true,.fn a [] []))) [.obj C ns ds]=(.next (ac.set i (some (true,.fn a [] []))),[w'])):F3 i f H ac []=(.next (ac.set i none),[]):=by
 unfold F3;rw[h1];simp only;rw[if_pos hp,Z6d (r:=some (.next (ac.set i none),[],true)) λa=>?_];obtain⟨w',e⟩:=h2 a;simp only[List.nil_append,e,Z3u,QaK,List.set_set];rfl
def Z8e:Z0f C CD []=some (cQ CD (c1 C)):=by kernel_rfl
section
variable {C CL CE CW CD:Af}
def R6(h:CL≠CE)(f:CL≠CW)(b:CE≠CW){l w:Ab Nat}{ws:Ab (Ab Nat)}(k:LN l w ws)(a:Af):∃d c',fS C [SS l]=some d/\kJ C CL CE CW CD a (cQ CD (c1 C)) [SS l]=some (d,cQ CD c')/\((∃s,d=.str s)\/∃s,d=Lr s/\c'=c1 C):=by
 obtain⟨d,d',c',h1,h2,h3⟩:=Zac (C:=C) (CL:=CL) (CE:=CE) (CW:=CW) (CD:=CD) (a:=a) k;rcases h3 with⟨s,rfl,rfl⟩|⟨rfl,h3⟩
 .exact⟨_,_,h1,Z8R h2 (λC e=>by cases e) rfl,.inl ⟨_,rfl⟩⟩
 .rcases h3 with⟨rfl,rfl⟩|⟨rfl,rfl⟩|⟨rfl,rfl⟩
  .exact⟨_,_,h1,D7 h f b h2 (.inl ⟨rfl,rfl⟩),.inr ⟨_,rfl,rfl⟩⟩
  .exact⟨_,_,h1,D7 h f b h2 (.inr (.inl ⟨rfl,rfl⟩)),.inr ⟨_,rfl,rfl⟩⟩
  .exact⟨_,_,h1,D7 h f b h2 (.inr (.inr ⟨rfl,rfl⟩)),.inr ⟨_,rfl,rfl⟩⟩
def Zdv(s:Str):eqN 8 (Lr s) (Lr s)=some true:=by
 show eqN 8 (.lst [.str s]) (.lst [.str s])=_;rw[tG,if_pos rfl,M5,eN,beq_self_eq_true];rfl
abbrev Z0G(ns:Ab Int)(cs:Ab Int)(i:Nat)(l:Ab Nat)(d:D)(a:Af):En:=[oF (.lst (ns.map D.int)),oT (LI cs),oF (.int (i:Int)),oT (SS l),oT d,oT (.fn a [] [])]
def Z7D(o:CL≠CE)(q:CL≠CW)(r:CE≠CW)(ns:Ab Int)(v:ns.length<=63)(u:∀i∈ns,Builtin.Int.intBits i<=1048576):ZaR C CL CE CW CD [.lst (ns.map D.int)]=some (.bl true):=by
 refine iC ?_;show Z7V C CL CE CW CD [oF (.lst (ns.map D.int)),none,none,none,none,none]=_;unfold Z7V;show(dC _ _ _ []).1=_;refine congrArg Prod.fst (a₂:=(Res.ret (.bl true),([]:Ab D))) ?_;obtain⟨b,A,K⟩:∃b:Ab Int,PD.cutD (ns.map D.int) none (some 63)=b.map D.int/\b.length<=63:=by
  refine⟨(ns.drop (HT.sIx ns.length 0 none)).take (HT.sIx ns.length ns.length (some 63)-HT.sIx ns.length 0 none),?_,?_⟩
  .unfold PD.cutD;rw[Qad,List.map_take,List.map_drop]
  .rw[QaV,Qa2];omega
 have F:fSl (aD 0) cR (fP (kI 63)) [oF (.lst (ns.map D.int)),none,none,none,none,none]=some (.lst (b.map D.int)):=by
  unfold fSl;show(if flats (ns.map D.int)=true then some (D.lst (PD.cutD (ns.map D.int) none (some 63))) else none)=_;rw[if_pos (mD ns),A]
 refine zC (d:=LI (b++[0])) ?_ ?_
 .rw[M4,F];show(if (b.map D.int).length+[D.int 0].length<=1000 then some (D.lst (b.map D.int++[D.int 0])) else none)=_;rw[if_pos (by rw[Qad];simp only[Qai,QaZ];omega)];simp[LI]
 have p:(b++[0]).length<=64:=by rw[Qaj];simp only[Qai,QaZ];omega
 generalize b++[0]=cs at p ⊢;have H:bF [LI cs]=some (.int (cs.length:Int)):=by simp only[bF,LI,Qad]
 refine Z6Z (ds:=(List.range cs.length).map λ(k:Nat)=>.int (k:Int)) (qO (xs:=[.int (cs.length:Int)]) (aM (cU (xs:=[LI cs]) rfl H) rfl) (R7 (by omega)))
  (λi ac=>∃x y z,ac=[oF (.lst (ns.map D.int)),oT (LI cs),x,y,z,none]) ⟨none,none,none,rfl⟩ ?_ λac ⟨x,y,z,e⟩=>by rw[e];exact Zcb rfl
 rintro i d ac hd ⟨x,y,z,rfl⟩;obtain⟨hi,rfl⟩:=lZ hd;have B:=Zcn (vs:=cs) (a:=(i:Int)) (by omega) (by omega);obtain⟨_,es,xs,rfl,E⟩:=Z1I (C:=C) (c:=nth cs i) (k:=(i:Int)) (by omega) (by omega);obtain⟨_,t,l,rfl,I,L,J⟩:=Z5I (C:=C) E;obtain⟨w,ws,k⟩:=Zdd (l:=l) ⟨I,by omega⟩ J;obtain⟨d,_,hd,_,_⟩:=R6 (C:=C) (CL:=CL) (CE:=CE) (CW:=CW) (CD:=CD) o q r k 0;refine⟨[oF (.lst (ns.map D.int)),oT (LI cs),oF (.int (i:Int)),oT (SS l),oT d,none],?_,_,_,_,rfl⟩;refine zC (d:=SS l) (aQ (xs:=[St xs]) (aM (aQ (xs:=[.int (nth cs i),.int (i:Int)]) (aM B rfl) es) rfl) t) ?_;refine zC (d:=d) (aQ (xs:=[SS l]) rfl hd) ?_;refine Z5h (ds:=[c1 C]) (ns:=["circuit"]) (C:=CD) Z8e rfl λa=>?_;show ∃w',dC _ _ (Z0G ns cs i l d a) [cQ CD (c1 C)]=(.next (Z0G ns cs i l d a),[w']);obtain⟨d',c',h,hs,j⟩:=R6 (C:=C) (CL:=CL) (CE:=CE) (CW:=CW) (CD:=CD) o q r k a;rw[hd]at h;cases h;have f:=Za8 (G:=kJ C CL CE CW CD) (fs:=aA (aD 5) (aA (aD 3) aF)) (ac:=(Z0G ns cs i l d a)) (ds:=[SS l]) rfl hs;have n:eqN 8 d d=some true:=by
  rcases j with⟨s,rfl⟩|⟨s,rfl,_⟩
  .rw[eN,beq_self_eq_true]
  .exact Zdv s
 refine⟨cQ CD c',uB (Z2Q (Z7Y (neg:=true) f (y:=d) rfl n) rfl) ?_⟩;rcases j with⟨s,rfl⟩|⟨s,rfl,rfl⟩
 .exact Z2Q rfl rfl
 .refine Z2Q (w1:=[cQ CD (c1 C)]) ?_ rfl;unfold Za9;exact Z7Y (neg:=true) f (y:=Lr s) rfl n
end
end G
namespace FR
open PySem PySem.W PySem.Calls PyProof.Rows
structure TC where
 p:Aj
 w:Ak
 m:Nat
 a:Aa Ad
 b:Ab Stmt
 e:Env
 q:Pos
variable {z:TC}{α β:Type}{s s' s'' s₁ s₂:Ac}
def Go(z:TC)(n:Nat)(s:Ac)(t:Thread)(s':Ac)(t':Thread):Prop :=
 ∀N r,topRun treeTable z.p z.w z.m z.a N s' t'=some r->topRun treeTable z.p z.w z.m z.a (n+N) s t=some r
def Go.refl:Go z 0 s t s t:=λN r h=>by rw[Qbo];exact h
def Go.trans(a:Go z n s t s' t')(b:Go z m s' t' s'' t''):Go z (n+m) s t s'' t'' :=
 λN r h=>by rw[Nat.add_assoc];exact a _ _ (b _ _ h)
def Go.mono(l:n<=m){s s':Ac}{t t':Thread}(a:Go z n s t s' t'):Go z m s t s' t':=λN r h=>by
 have:=topRun_mono (m-n) _ _ _ _ (a N r h);rw[show n+N+(m-n)=m+N by omega]at this;exact this
theorem Go.step(h1:through t=false)(h2:stepOk z.m z.a t=true)(h3:step (denote treeTable) z.p z.w s t=.go s' t'):Go z 1 s t s' t':=λN r h=>by
 rw[Nat.add_comm];unfold topRun;rw[h1,h2,h3];exact h
def Go.of_topGo(h:topGo treeTable z.p z.w z.m z.a n s t=some (s',t')):Go z n s t s' t':=λN r k=>go_top h k
def goT(p:Aj)(w:Ak)(m0:Nat)(ann:Aa Ad):Nat->SharedT->Thread->Aa (SharedT×Thread)
 |0,s,t=>some (s,t)
 |n+1,s,t=>match through t with
  |true=>none
  |false=>match stepOk m0 ann t with
   |false=>none
   |true=>match stepT (denote treeTable) p w s t with
    |some (s',t')=>goT p w m0 ann n s' t'
    |none=>none
theorem Z7Q:∀{n:Nat}{s s':SharedT}{t t':Thread},goT z.p z.w z.m z.a n s t=some (s',t')->topGo treeTable z.p z.w z.m z.a n s.abs t=some (s'.abs,t')
 |0,_,_,_,_,h=>by cases h;rfl
 |n+1,s,s',t,t',h=>by
  unfold goT at h;unfold topGo;cases he:through t with
  |true=>rw[he]at h;cases h
  |false =>
   rw[he]at h;cases b:stepOk z.m z.a t with
   |false=>rw[b]at h;cases h
   |true =>
    rw[b]at h;cases hs:stepT (denote treeTable) z.p z.w s t with
    |none=>rw[hs]at h;cases h
    |some r=>obtain⟨s₂,f⟩:=r;rw[hs]at h;rw[stepT_spec hs];exact Z7Q h
def Go.of_goT{n:Nat}{s s':SharedT}{t t':Thread}(h:goT z.p z.w z.m z.a n s t=some (s',t')):Go z n s.abs t s'.abs t':=Go.of_topGo (Z7Q h)
def Tp(z:TC){α:Type}(n:Nat)(m:Sem α)(s:Ac)(a:α)(s':Ac):Prop :=
 ∀(K:α->Sem Fin) (H:Ad->Sem Fin) (gd:Bool->Bool) (lv:Ab Ad->Ab Ad) (ai:Pos),∃pos',Go z n s ⟨m.wrap K H gd lv,.body z.b z.e,ai,[topFrame z.q]⟩ s' ⟨K a,.body z.b z.e,pos',[topFrame z.q]⟩
theorem Tp.mono(l:n<=k)(h:Tp z n m s a s'):Tp z k m s a s':=λK H b f ai =>
 let ⟨pos',g⟩:=h K H b f ai;⟨pos',g.mono l⟩
theorem Tp.pure:Tp z 0 (Pure.pure a:Sem α) s a s:=λK H gd lv ai=>⟨ai,Go.refl⟩
def Tp.bind{n k:Nat}{m:Sem α}{f:α->Sem β}{a:α}{x:β}(h:Tp z n m s a s')(h':Tp z k (f a) s' x s'') :
  Tp z (n+k) (m >>= f) s x s'':=λK H gd lv ai=>by
 obtain⟨pos',g⟩:=h (λa=>(f a).wrap K H gd lv) (λe=>(Sem.raise e:Sem β).wrap K H gd lv) (λg=>gd (id g)) (λl=>lv (id l)) ai;obtain⟨b,g'⟩:=h' K H gd lv pos';refine⟨b,?_⟩;rw[Sem.bind_eq_wrap',Sem.wrap_wrap];exact g.trans g'
theorem Tp.keep(h:Tp z n m s a s'):Tp z n (m.keep vs) s a s':=λK H gd lv ai=>by
 obtain⟨pos',g⟩:=h K H (λg=>gd (id g)) (λl=>lv (vs++l)) ai;refine⟨pos',?_⟩;rw[Sem.keep_eq_wrap,Sem.wrap_wrap];exact g
theorem Tp.holding(h:Tp z n m s a s'):Tp z n (holding vs m) s a s':=by
 unfold PySem.holding;split
 .exact h
 .exact h.keep
theorem Tp.rule:Tp z 1 (rule tag) s () s:=λK H a b ai =>
 ⟨ai,Go.step rfl rfl rfl⟩
theorem Tp.standAt:Tp z 1 (standAt ps) s () s:=λK H gd lv ai=>⟨ps,Go.step rfl rfl rfl⟩
theorem Tp.loadPart(h:s.heap.get? a=some o):Tp z 1 (loadPart a part) s o s:=λK H gd lv ai=>by
 obtain⟨heap,gens,drawn,toks,os⟩:=s;refine⟨ai,Go.step rfl rfl ?_⟩;show step (denote treeTable) z.p z.w _ ⟨.load a part _,_,_,_⟩=_;simp only[step,show heap.get? a=some o from h]
 rfl
theorem Tp.updatePart(h:(s.heap.get? a).isSome=true)(b:Nat.ble z.m a=true):Tp z 1 (updatePart a part f) s () { s with heap:=s.heap.update a f }:=λK H gd lv ai=>by
 obtain⟨heap,gens,drawn,toks,os⟩:=s;refine⟨ai,Go.step rfl ?_ ?_⟩
 .show((true&&(true&&true))&&(Nat.ble z.m a||a==mainNs||a==cStatics||z.a==some (.ref a)))=true;rw[b];rfl
 .show step (denote treeTable) z.p z.w _ ⟨.update a part f _,_,_,_⟩=_;simp only[step,show(heap.get? a).isSome=true from h,Rk]
  rfl
theorem Tp.alloc:Tp z 1 (alloc o) s s.heap.objs.size { s with heap:=s.heap.push o }:=λK H gd lv ai=>by
 obtain⟨heap,gens,drawn,toks,os⟩:=s;exact⟨ai,Go.step rfl rfl rfl⟩
theorem Tp.dictEntries(h:s.heap.get? a=some o)(hd:o.data=.dict es n):Tp z 1 (dictEntries a part) s es s:=by
 unfold PySem.dictEntries;refine Tp.bind (n:=1) (k:=0) (Tp.loadPart h) ?_;rw[hd];exact Tp.pure
theorem Tp.dictEpoch(h:s.heap.get? a=some o)(hd:o.data=.dict es n):Tp z 1 (dictEpoch a part) s n s:=by
 unfold PySem.dictEpoch;refine Tp.bind (n:=1) (k:=0) (Tp.loadPart h) ?_;rw[hd];exact Tp.pure
theorem Tp.forIn{c:Nat}{f:α->β->Sem (ForInStep β)}{x:β}:∀(l:Ab α),(∀a∈l,Tp z c (f a x) s (.yield x) s)->Tp z (l.length*c) (forIn l x f) s x s
 |[],_=>by rw[List.forIn_nil];exact Tp.mono (QaY _) Tp.pure
 |a::l,h=>by
  rw[Qbf];refine Tp.mono (show c+l.length*c<=(a::l).length*c by rw[Qai,Nat.succ_mul];omega) ?_;exact Tp.bind (h a Qag) (Tp.forIn l λa ha=>h a (Qaa _ ha))
theorem Tp.tableMayTell{c:Nat}{b:Ad}{a:Ab Ad}(f:Tp z c (eqIsQuiet 8 b) s true s)(hs:∀v∈a,Tp z c (eqIsQuiet 8 v) s true s) :
  Tp z (c+a.length*c) (tableMayTell b a) s false s:=by
 unfold PySem.tableMayTell;split
 .exact Tp.mono (QaY _) Tp.pure
 .refine Tp.bind (n:=c) f ?_;simp only[Bool.not_true,Qbd,Rl];refine Tp.mono (show a.length*c+0<=_ by omega) ?_;refine Tp.bind (Tp.forIn (c:=c) _ λv hv=>?_) Tp.pure;refine Tp.mono (show c+0<=c by omega) ?_;refine Tp.bind (hs v hv) ?_;simp only[Bool.not_true,Qbd,Rl];exact Tp.pure
def Z5p(n:Nat)(f:Nat->Aa Int)(h:Int):(placesWithHash n f h).length<=n:=by
 unfold placesWithHash;exact Qay (List.length_filter_le _ _) (by rw[List.length_range];exact Qap _)
theorem wM(f:α->Aa β):∀l:Ab α,(l.filterMap f).length<=l.length
 |[]=>Qap _
 |a::l=>by
  have:=wM f l;rw[Qbt];split<;>simp only[Qai]<;>omega
def Tp.dictFind_none{d a:Af}{o:Obj}{es:Ae DictEntry}{ep:Nat}{h:Int}{ce cq:Nat}(f:s.heap.get? d=some o)(hd:o.data=.dict es ep)
  (y:∀e∈es,(e.key == .ref a)=false) (hq:Tp z cq (eqIsQuiet 8 (.ref a)) s true s) (q:∀e∈es,Tp z cq (eqIsQuiet 8 e.key) s true s)
  (r:∀e∈es,Tp z ce (eqBool e.key (.ref a)) s false s) :
  Tp z (1+(cq+es.size*cq)+es.size*(ce+3)) (dictFind d (.ref a) h) s none s:=by
 have j:¬(es.any λe=>e.key==Value.ref a&&e.hash != h)=true:=by
  rw[<- Array.any_toList,List.any_eq_true];rintro⟨e,w,hc⟩;rw[y e (Array.mem_toList_iff.mp w)]at hc;cases hc
 have l:∀v∈(placesWithHash es.size (λi=>es[i]?.map (·.hash)) h).filterMap (λi=>es[i]?.map (·.key)),Tp z cq (eqIsQuiet 8 v) s true s:=by
  intro v x;obtain⟨i,_,hi⟩:=List.mem_filterMap.mp x;cases hei:es[i]? with
  |none=>rw[hei]at hi;cases hi
  |some e =>
   rw[hei]at hi;obtain rfl:e.key=v:=by simpa using hi
   exact q e (Array.mem_of_getElem? hei)
 have u:=Z5p es.size (λi=>es[i]?.map (·.hash)) h;have t:=wM (λi=>es[i]?.map (·.key)) (placesWithHash es.size (λi=>es[i]?.map (·.hash)) h);have A:((placesWithHash es.size (λi=>es[i]?.map (·.hash)) h).filterMap (λi=>es[i]?.map (·.key))).length*cq<=es.size*cq:=Nat.mul_le_mul_right _ (Qay t u);have B:(placesWithHash es.size (λi=>es[i]?.map (·.hash)) h).length*(ce+3)<=es.size*(ce+3):=Nat.mul_le_mul_right _ u;unfold PySem.dictFind;refine Tp.holding ?_;refine Tp.mono (show 1+((cq+es.size*cq)+es.size*(ce+3))<=_ by omega) ?_;refine Tp.bind (Tp.dictEntries f hd) ?_;dsimp only;rw[if_neg (show ¬((Value.ref a::(placesWithHash es.size (λi=>es[i]?.map (·.hash)) h).filterMap (λi=>es[i]?.map (·.key))).all carriedByValue)=true by simp[carriedByValue])];rw[if_neg j];by_cases b:(((placesWithHash es.size (λi=>es[i]?.map (·.hash)) h).filterMap (λi=>es[i]?.map (·.key)))==[Value.ref a])=true <;>
 (first | rw [if_pos b] | rw [if_neg b]) <;> (first | refine Tp.bind (n:=cq + es.size * cq) (Tp.mono (QaY _) Tp.pure) ?_ | refine Tp.bind (n:=cq + es.size * cq) (Tp.mono (by omega) (Tp.tableMayTell hq l)) ?_) <;> (
  rw[if_neg (by simp)];refine Tp.mono (show(placesWithHash es.size (λi=>es[i]?.map (·.hash)) h).length*(ce+3)+0<=_ by omega) ?_;refine Tp.bind (Tp.forIn (c:=ce+3) _ λi hi=>?_) Tp.pure;cases hei:es[i]? with
  |none=>dsimp only;exact Tp.mono (QaY _) Tp.pure
  |some e =>
   dsimp only;by_cases p:(e.hash==h)=true
   .rw[if_pos p];have he:=r e (Array.mem_of_getElem? hei);refine Tp.mono (show 1+(ce+(1+(1+0)))<=ce+3 by omega) ?_;refine Tp.bind (Tp.dictEpoch f hd) (Tp.bind he (Tp.bind (Tp.dictEpoch f hd) ?_));rw[if_neg (by simp)];simp only[Qbd,Rl];refine Tp.bind Tp.rule ?_
    first|rw[if_neg (by simp)]|skip
    exact Tp.pure
   .rw[if_neg p];exact Tp.mono (QaY _) Tp.pure)
def Tp.dictSet_new(n:Tp z ch (pyHash (.ref a)) s h { s with toks:=t })
  (b:s.heap.get? d=some o) (hd:o.data=.dict es ep) (p:Nat.ble z.m d=true) (hsz:es.size+1<=sizeLine)
  (l:∀e∈es,(e.key == .ref a)=false) (hq:Tp z cq (eqIsQuiet 8 (.ref a)) { s with toks:=t } true { s with toks:=t }) (j:∀e∈es,Tp z cq (eqIsQuiet 8 e.key) { s with toks:=t } true { s with toks:=t })
  (i:∀e∈es,Tp z ce (eqBool e.key (.ref a)) { s with toks:=t } false { s with toks:=t }) :
  Tp z (ch+((1+(cq+es.size*cq)+es.size*(ce+3))+4)) (dictSet d (.ref a) v) s () { s with heap:=s.heap.update d (Obj.mapDictKeys (·.push ⟨h,.ref a,v⟩)),toks:=t }:=by
 unfold PySem.dictSet;refine Tp.holding (Tp.bind n ?_);unfold PySem.dictSetHashed;refine Tp.holding (Tp.bind (Tp.dictFind_none (s:={ s with toks:=t }) b hd l hq j i) ?_);dsimp only;refine Tp.mono (show 1+(1+(1+(1+0)))<=4 by omega) ?_;refine Tp.bind Tp.rule ?_;unfold PySem.updateDictKeys;refine Tp.bind (Tp.loadPart (s:={ s with toks:=t }) b) ?_;rw[hd];dsimp only;refine Tp.bind (Tp.updatePart (s:={ s with toks:=t }) (by show(s.heap.get? d).isSome=true;rw[b];rfl) p) ?_;unfold PySem.lookBehind;have f:(s.heap.update d (Obj.mapDictKeys (·.push ⟨h,.ref a,v⟩))).get? d=some (Obj.mapDictKeys (·.push ⟨h,.ref a,v⟩) o):=by
  exact Heap.get?_update_self _ b (Obj.isFreed_of_dict (Obj.data_mapDictKeys hd _))
 refine Tp.bind (Tp.loadPart f) ?_;have hp:(Obj.mapDictKeys (·.push ⟨h,.ref a,v⟩) o).data.pastItsLine=none:=by
  obtain⟨c,dd,q,r⟩:=o;dsimp only at hd;subst hd;show Data.pastItsLine (.dict _ _)=none;simp[Data.pastItsLine];omega
 rw[hp];exact Tp.pure
theorem Tp.of_goT{α:Type}{n:Nat}{m:Sem α}{a:α}{s s':SharedT}(h:∀K H gd lv ai,∃pos',goT z.p z.w z.m z.a n s ⟨m.wrap K H gd lv,.body z.b z.e,ai,[topFrame z.q]⟩=some (s',⟨K a,.body z.b z.e,pos',[topFrame z.q]⟩)) :
  Tp z n m s.abs a s'.abs:=λK H gd lv ai=>let ⟨pos',e⟩:=h K H gd lv ai;⟨pos',Go.of_goT e⟩
theorem Tp.reduced:Tp z 1 (pyHashByItsType.reduced i) s (reduceHash i) s:=by
 unfold pyHashByItsType.reduced;by_cases a:(decide (-(2:Int)^63<=i)&&decide (i<2^63))=true
 .have e:reduceHash i=if i == -1 then -2 else i:=by unfold reduceHash;rw[if_pos a]
  rw[if_pos a,e];exact Tp.mono (QaY _) Tp.pure
 .rw[if_neg a];unfold reduceHash;rw[if_neg a];exact Tp.bind (k:=0) Tp.rule Tp.pure
def Tp.pyHash_ref(f:Tp z 1 (cRoomFor "hash" [.ref a]) s () s)(h:Tp z 1 (specialOf (.ref a) "__hash__") s (some (.builtin "tuple.__hash__")) s)
  (b:∀act,Tp z n (callSpecialIfBoundUnlessNone? (.ref a) "__hash__" act) s (some (.int x t)) s'):Tp z (n+4) (pyHash (.ref a)) s (reduceHash x) s':=by
 refine Tp.mono (show 1+(1+(1+(n+1)))<=n+4 by omega) ?_;unfold pyHash;unfold pyHashByItsType;refine Tp.bind f (Tp.bind h ?_);show Tp _ _ (if (some (Value.builtin "tuple.__hash__")==some Value.none)=true then _ else _) _ _ _;rw[if_neg (by rw[beq_builtin_none];exact Qbn)];refine Tp.bind h ?_;show Tp _ _ (callSpecialIfBoundUnlessNone? (.ref a) "__hash__" _ >>= _) _ _ _;exact Tp.bind (b _) Tp.reduced
theorem set_set(f g:Obj->Obj):∀(t:BT) (a:Nat),(t.set a f).set a g=t.set a (λo=>g (f o))
 | .nil,_=>rfl
 | .node v l r,a=>by
  rw[BT.set_node v l r a f,BT.set_node v l r a];by_cases h:a=0
  .rw[if_pos h,if_pos h,BT.set_node,if_pos h]
  .rw[if_neg h,if_neg h];by_cases q:a%2=1
   .rw[if_pos q,if_pos q,BT.set_node,if_neg h,if_pos q,set_set f g l]
   .rw[if_neg q,if_neg q,BT.set_node,if_neg h,if_neg q,set_set f g r]
def Tp.storeAll_nil:Tp z 0 (storeAll d []) s PUnit.unit s:=by
 unfold storeAll;rw[List.forIn_nil];exact Tp.pure
def Tp.storeAll_cons(h:Tp z c (dictSet d k v) s () s₁)(h':Tp z c' (storeAll d vs) s₁ PUnit.unit s₂) :
  Tp z (c+c') (storeAll d ((k,v)::vs)) s PUnit.unit s₂:=by
 unfold storeAll at h' ⊢;rw[Qbf];refine Tp.bind (n:=c) (Tp.mono (show c+0<=c by omega) (Tp.bind h Tp.pure)) ?_;exact h'
theorem Tp.subDict(b:pairs.length<=15)
  (h1:Tp z c (evalPairs pairs) { s with heap:=s.heap.push { cls:=.type "dict",data:=.dict #[] } } vs s₁) (h2:Tp z c' (storeAll s.heap.objs.size vs) s₁ PUnit.unit s₂) :
  Tp z (1+(c+c')) (subDict pairs) s s.heap.objs.size s₂:=by
 unfold PySem.subDict;refine Tp.bind Tp.alloc ?_;refine Tp.mono (show(c+c')+0<=c+c' by omega) ?_;refine Tp.bind (a:=()) (Tp.holding ?_) Tp.pure;rw[if_pos b];refine Tp.bind h1 ?_;refine Tp.holding ?_;exact Tp.mono (show c'+0<=c' by omega) (Tp.bind h2 Tp.pure)
theorem Tp.Dict(a:keys.all (·.isSome)=true)(i:keys.length=values.length)(j:keys≠[])(f:keys.length<=15)
  (h1:Tp z c (evalPairs (pairTrees keys values z.e ai)) { s with heap:=s.heap.push { cls:=.type "dict",data:=.dict #[] } } vs s₁) (h2:Tp z c' (storeAll s.heap.objs.size vs) s₁ PUnit.unit s₂) :
  Tp z (1+(1+(c+c'))) (eval (.Dict keys values ai) z.e) s (.ref s.heap.objs.size) s₂:=by
 have b:=pairTrees_length keys values z.e ai a i;have h:pairTrees keys values z.e ai≠[]:=by
  intro he;rw[he]at b;exact j (QaM.mp b.symm)
 rw[arm_eval_Dict,zip_pairTrees keys values z.e ai a i,dictDisplay_pairs _ h (by rw[b];omega)];refine Tp.bind Tp.standAt ?_;exact Tp.mono (show(1+(c+c'))+0<=1+(c+c') by omega) (Tp.bind (Tp.subDict (by rw[b];exact f) h1 h2) Tp.pure)
theorem Tp.Assign(a:Tp z 0 (swapsWithSole targets value ai.line z.e) s false s)(h1:Tp z c (eval value z.e) s v s₁)
  (h2:Tp z c' (swappedStores targets value z.e >>= λx=>assignStores z.e v x ((assignEach targets z.e).map (·.2))) s₁ fl s₂):Tp z (1+(0+(c+c'))) (exec (.Assign targets value ai) z.e) s fl s₂:=by
 rw[arm_exec_Assign];refine Tp.bind Tp.standAt (Tp.bind a ?_);simp only[Qbd,Rl];exact Tp.bind h1 h2
def Z8B{T:BT}{D n t t':Nat}{X a o:Obj}{f:Obj->Obj}{os:OsState}{life:Life}{gens:Ae GenState}{drawn:Drawn}(b:f X=a)(i:(T.set D (λ_=>X)).get D=some o) :
  ({ (SharedT.mk (T.set D (λ_=>X)) n life gens drawn t os).abs with heap:=(SharedT.mk (T.set D (λ_=>X)) n life gens drawn t os).abs.heap.update D f,toks:=t' }:Ac)=(SharedT.mk (T.set D (λ_=>a)) n life gens drawn t' os).abs:=by
 have e:absHeap (T.set D (λ_=>a)) n life=(absHeap (T.set D (λ_=>X)) n life).update D f:=by
  rw[<- absHeap_set i,set_set,b]
 exact congrArg (λh=>Shared.mk h gens drawn t' os) e.symm
def Tp.to(e:s'=s'')(h:Tp z n m s a s'):Tp z n m s a s'':=e ▸ h
def Z8n{P:DictEntry->Prop}{es:Ae DictEntry}{x:DictEntry}(h:∀e∈es,P e)(a:P x):∀e∈es.push x,P e:=λe he=>by
 rcases Array.mem_push.mp he with he|rfl
 .exact h e he
 .exact a
def all_nil{P:DictEntry->Prop}:∀e∈(#[]:Ae DictEntry),P e:=λe he=>by simp at he
def dX(es:Ae DictEntry)(ep:Nat):Obj:={ cls:=.type "dict",data:=.dict es ep }
def Tp.dictSetT{T:BT}{D n t t' ep:Nat}{es:Ae DictEntry}{os:OsState}{life:Life}{gens:Ae GenState}{drawn:Drawn}{a:Af}{v:Ad}{h:Int}{ch ce cq:Nat}
  (j:(T.set D (λ_=>dX es ep)).get D=some (dX es ep)) (r:D<n) (o:Nat.ble z.m D=true) (hsz:es.size+1<=sizeLine)
  (p:Tp z ch (pyHash (.ref a)) (SharedT.mk (T.set D (λ_=>dX es ep)) n life gens drawn t os).abs h (SharedT.mk (T.set D (λ_=>dX es ep)) n life gens drawn t' os).abs)
  (q:∀e∈es,(e.key == .ref a)=false)
  (hq:Tp z cq (eqIsQuiet 8 (.ref a)) (SharedT.mk (T.set D (λ_=>dX es ep)) n life gens drawn t' os).abs true (SharedT.mk (T.set D (λ_=>dX es ep)) n life gens drawn t' os).abs)
  (b:∀e∈es,Tp z cq (eqIsQuiet 8 e.key) (SharedT.mk (T.set D (λ_=>dX es ep)) n life gens drawn t' os).abs true (SharedT.mk (T.set D (λ_=>dX es ep)) n life gens drawn t' os).abs)
  (i:∀e∈es,Tp z ce (eqBool e.key (.ref a)) (SharedT.mk (T.set D (λ_=>dX es ep)) n life gens drawn t' os).abs false (SharedT.mk (T.set D (λ_=>dX es ep)) n life gens drawn t' os).abs) :
  Tp z (ch+((1+(cq+es.size*cq)+es.size*(ce+3))+4)) (dictSet D (.ref a) v) (SharedT.mk (T.set D (λ_=>dX es ep)) n life gens drawn t os).abs ()
   (SharedT.mk (T.set D (λ_=>dX (es.push ⟨h,.ref a,v⟩) (ep+1))) n life gens drawn t' os).abs:=by
 have l:(SharedT.mk (T.set D (λ_=>dX es ep)) n life gens drawn t os).abs.heap.get? D=some (dX es ep):=abs_get r j;exact Tp.to (Z8B (f:=Obj.mapDictKeys (·.push ⟨h,.ref a,v⟩)) rfl j) (Tp.dictSet_new (t:=t') p l rfl o hsz q hq b i)
def Z7i{n N:Nat}{r:Ac}{st:Stmt}{rest:Ab Stmt}{ai:Pos}(h:Tp z n (exec st z.e) s .next s')
  (k:∀pos',topRun treeTable z.p z.w z.m z.a N s' (restOf rest z.e (.body z.b z.e) pos' [topFrame z.q])=some r):topRun treeTable z.p z.w z.m z.a (n+N) s (restOf (st::rest) z.e (.body z.b z.e) ai [topFrame z.q])=some r:=by
 obtain⟨pos',g⟩:=h (λf=>match f with | .next=>(execs rest z.e).wrap doneF (leaveH z.e) id id|f=>doneF f) (leaveH z.e) id id ai
 have:=g N r (k pos');unfold restOf;rw[execs_cons_wrap];exact this
end FR
set_option maxHeartbeats 0
namespace PySem.W.Fast
def tw12105263227877110853:=0
def tw10368383578631103314:=0
def tw16528973351965468052:=0
def tw11532256338101799594:=0
def tw13160463745020158354:=0
def tw14593974846387246087:=0
def tw16671464627360787192:=0
def tw4861984201077689203:=0
def tw11073029016599121781:=0
def tw15333906131207069970:=0
def tw12444388724811969175:=0
def tw5828233547192493852:=0
def tw7831262254431188080:=0
def tw2175937695706645007:=0
def tw15307077317795520842:=0
def tw12715438607757880281:=0
def tw14238359138657884200:=0
def tw18346596770055757319:=0
def tw279609826883389670:=0
def tw6536767190780298628:=0
def tw10410945159873318593:=0
def tw5469486135515610259:=0
def tw2109762492694284531:=0
def tw11503394419185864699:=0
def tw18062471758834856639:=0
def tw17855304597182472959:=0
def tw3197077021162604813:=0
def tw13766165737501380920:=0
def tw6845972685116590428:=0
def tw17503793066645861363:=0
def tw12319316478373437797:=0
def tw1049557132783694529:=0
def tw12868103669291357928:=0
def tw5164088694757457714:=0
def tw9119449864931452293:=0
def tw5825504082782385526:=0
def tw10786978338279595259:=0
def tw2571784909917556654:=0
def tw10591160969943678685:=0
def tw1528723346822587838:=0
def tw17972060651990283154:=0
def tw6723804542677768103:=0
def tw5211861944142937268:=0
def tw14230467076075690797:=0
def tw9047875976821879098:=0
def tw8278614951162308655:=0
def tw16836168243550997484:=0
def tw14752514884812333190:=0
def tw15662892184070539589:=0
def tw5036172725842206649:=0
def tw14694424591834217493:=0
def tw6074637426821840716:=0
def tw17874357834185237087:=0
def tw16205436296270347349:=0
def tw770702426970738672:=0
def tw215779146110437637:=0
def tw15583141060919066438:=0
def tw1148441128695265516:=0
def tw18352690205488086038:=0
def tw10470795959877469968:=0
def tw7128538563685932946:=0
def tw14547538097637526161:=0
def tw11907688349710878288:=0
def tw6260261138195927520:=0
def tw15079156302702475320:=0
def tw18328543706648329382:=0
def tw10635742365417445312:=0
def tw12202195498785695343:=0
def tw2858620745698358357:=0
def tw13192388921091968706:=0
def tw9470382115672202889:=0
def tw3654647185903220251:=0
def tw8922222636677666417:=0
def tw15093153716026854636:=0
def tw1331254715290520891:=0
def tw2048208300963356379:=0
def tw243785615752656593:=0
def tw308429748892523723:=0
def tw289563708335987550:=0
def tw17902979728209878346:=0
def tw2975241398088042761:=0
def tw7993143264876500135:=0
def tw13935289446155752861:=0
def tw5742919551912805227:=0
def tw13844425207119478827:=0
def tw1741879590084290979:=0
def tw7270562557461370772:=0
def tw9790559511848792008:=0
def tw17429606825784804389:=0
def tw13676194919285721319:=0
def tw1152425515195442402:=0
def tw10003835032675459020:=0
def tw2482644882873194210:=0
def tw5333087368590213499:=0
def tw7599272976152229606:=0
def tw16140998649573381473:=0
def tw17635583263032052531:=0
def tw7761367632103121236:=0
def tw15664104676008140190:=0
def tw13924156053015692010:=0
def tw18031120772703033933:=0
def tw16192438688975967121:=0
def tw15824437950114882765:=0
def tw6754876969971048680:=0
def tw13314535144256832855:=0
def tw8573947701471061060:=0
def tw18118227078792394936:=0
def tw2138684819642465111:=0
def tw4756935440585311032:=0
def tw10395808162049860331:=0
def tw6075886903843123097:=0
def tw2932526783427974618:=0
def tw8497091688172325734:=0
def tw1382637908561314824:=0
def tw15098548141931360376:=0
def tw5244317538465999721:=0
def tw3615822805109686011:=0
def tw3346105804557576774:=0
def tw12688696769459671378:=0
def tw3610927688392014763:=0
def tw15688638803002706335:=0
def tw14900861620468946457:=0
def tw14042517818913581503:=0
def tw2314482924299489673:=0
def tw10628983333840051626:=0
def tw1728312849099731343:=0
def tw3325667190407836152:=0
def tw8994862651184673374:=0
def tw4384224184152092389:=0
def tw4337816194392991176:=0
def tw14635042252949327031:=0
def tw6430810373525837632:=0
def tw14275769189782326864:=0
def tw7533947261855753660:=0
def tw7013682814608135661:=0
def tw2484899382392147721:=0
def tw14444581476522111295:=0
def tw17871301751488844294:=0
def tw16707385635266241821:=0
def tw2767912527576268730:=0
def tw7592103831777073183:=0
def tw2059769124762288422:=0
def tw15707389897556297182:=0
def tw204575727106367934:=0
def tw1521276332992843873:=0
def tw10716574659251407374:=0
def tw10101891285746795289:=0
def tw14097831986853905501:=0
def tw14324864534983210198:=0
def tw1778121823830450285:=0
def tw758008471934563973:=0
def tw17235475665016451803:=0
def tw1569100960082042912:=0
def tw3732867206980664819:=0
def tw14566902806209721821:=0
def tw5020434923968138091:=0
def tw1949416070006039497:=0
def tw2157926410236243167:=0
def tw2404714782727361287:=0
def tw4096779947458677624:=0
def tw2091210830085586825:=0
def tw11563377714207159110:=0
def tw16397240518097290424:=0
def tw4674003078817613616:=0
def tw2194976948157103840:=0
def tw15080217990650940154:=0
def tw14182836708104905115:=0
def tw7357475182928802186:=0
def tw1836977856389797382:=0
def tw10588141143473291030:=0
def tw5215923103439710569:=0
def tw7800360649885303530:=0
def tw18353383481702692829:=0
def tw6422589307526520132:=0
def tw2104091008595007086:=0
def tw12828649458213336425:=0
def tw15433511378131021071:=0
def tw17895819422264065721:=0
def tw3059130421280766283:=0
def tw2402087043990947953:=0
def tw10581229196507642579:=0
def tw2364800591690190665:=0
def tw13927341536703592229:=0
def tw5629431797844699928:=0
def tw3535160359973969823:=0
def tw15544392724489149058:=0
def tw5214912398273446548:=0
def tw15661996499658642019:=0
def tw15264116141076701506:=0
def tw13725660676006141636:=0
def tw948740444701212825:=0
def tw17672632561526015268:=0
def tw3873102051137237923:=0
def tw13078101151386562791:=0
def tw11159138147389821624:=0
def tw11538023670384857439:=0
def tw11463736882107734439:=0
def tw2982639085848350477:=0
def tw2414120655292180463:=0
def tw1665222173530856:=0
end PySem.W.Fast
section
open PySem PySem.W
def kqA:Aa PySem.Expr->Aa PySem.Expr
 |some (.Tuple (.Constant (.str s) k p::r) c q)=>some (.Tuple (.Constant (.int (Int.ofNat (s.cps.toList.headD 0))) k p::r) c q)
 |x=>x
def kqB:Stmt->Stmt
 | .Assign tg (.Dict ks vs ps) pt=>.Assign tg (.Dict (ks.map kqA) vs ps) pt
 |x=>x
def Zd4:Aj:={ PySem.Challenge.pw_stuckwire_k60_lines_read with main:={ PySem.Challenge.pw_stuckwire_k60_lines_read.main with body:=PySem.Challenge.pw_stuckwire_k60_lines_read.main.body.modify 59 kqB } }
open_shared Post for Zd4 leaving 0
end
set_option maxHeartbeats 0
namespace FR
open PySem PySem.W PySem.Calls PyProof.Rows
abbrev pK:Aj:=PySem.Challenge.pw_stuckwire_k60_lines_read
abbrev stF:Stmt:=pK.main.body.getD 59 (.Pass ⟨0,0,0,0⟩)
def exF:Ab Ag×Ab (Aa Ag)×Ab Ag×Pos×Pos:=match stF with | .Assign t (.Dict k v p) q=>(t,k,v,p,q)|_=>([],[],[],⟨0,0,0,0⟩,⟨0,0,0,0⟩)
def Zbe:stF=.Assign exF.1 (.Dict exF.2.1 exF.2.2.1 exF.2.2.2.1) exF.2.2.2.2:=by kernel_rfl
def D0:Obj:={ cls:=.type "dict",data:=.dict #[] }
abbrev tp(a:Ae Ad):Obj:={ cls:=.type "tuple",data:=.seq a }
def oF352:=tp #[.str "give" 661,.int 1 662]
def oF353:=tp #[.str "number" 663]
def oF354:=tp #[.str "stuck" 664,.int 3 665]
def oF355:=tp #[.str "number" 666,.str "bit" 667,.str "number" 668]
def oF356:=tp #[.str "leg" 669,.int 4 670]
def oF357:=tp #[.str "number" 671,.str "bit" 672,.str "bit" 673,.str "number" 674]
def oF358:=tp #[.str "faults" 675,.int 0 676]
def oF359:=tp #[]
def oF360:=tp #[.str "idle" 677,.int 0 678]
def oF361:=tp #[]
def oF362:=tp #[.str "tells" 679,.int 2 680]
def oF363:=tp #[.str "number" 681,.str "bit" 682]
def oF364:=tp #[.str "tells" 683,.int 3 684]
def oF365:=tp #[.str "number" 685,.str "bit" 686,.str "bit" 687]
def oF366:=tp #[.str "lean" 688,.int 0 689]
def oF367:=tp #[]
def TD(P:Params):BT:=(Post.tree_370 P).ins 351 D0
def T0(P:Params):BT:=((((((((((((((((TD P).ins 352 oF352).ins 353 oF353).ins 354 oF354).ins 355 oF355).ins 356 oF356).ins 357 oF357).ins 358 oF358).ins 359 oF359).ins 360 oF360).ins 361 oF361).ins 362 oF362).ins 363 oF363).ins 364 oF364).ins 365 oF365).ins 366 oF366).ins 367 oF367
abbrev stT(t:BT)(n toks:Nat)(os:OsState):SharedT:={ tree:=t,n:=n,life:={ },gens:={ toList:=[] },drawn:={ },toks:=toks,os:=os }
def kw:Nat->Str×Int
 |0=>("give",1)
 |1=>("stuck",3)
 |2=>("leg",4)
 |3=>("faults",0)
 |4=>("idle",0)
 |5=>("tells",2)
 |6=>("tells",3)
 |_=>("lean",0)
def hF(P:Params)(i:Nat):Int:=Builtin.Tuple.tupleHashOf [PyData.keyHash P (kw i).1,(kw i).2]
def al8{P:Nat->Prop}(a:P 0)(b:P 1)(c:P 2)(d:P 3)(e:P 4)(f:P 5)(g:P 6)(h:P 7):∀i,i<8->P i
 |0,_=>a|1,_=>b|2,_=>c|3,_=>d|4,_=>e|5,_=>f|6,_=>g|7,_=>h|n+8,q=>absurd q (by omega)
variable (p:Aj)(b:Ab Stmt)(os:OsState)
abbrev GG(w:Ak)(n:Nat)(s:SharedT){α:Type}(m:Sem α)(r:α)(s':SharedT)(pos':Pos->Pos):Prop:=∀(K:α->Sem Fin) (H:Ad->Sem Fin) (gd:Bool->Bool) (lv:Ab Ad->Ab Ad) (ai:Pos),goT p w 11 (some (.ref 6)) n s ⟨m.wrap K H gd lv,.body b Post.env_1,ai,[topFrame ⟨0,0,0,0⟩]⟩=some (s',⟨K r,.body b Post.env_1,pos' ai,[topFrame ⟨0,0,0,0⟩]⟩)
abbrev S0(w:Ak)(F:Obj->Obj)(t:Nat):SharedT:=stT ((T0 w.params).set 351 F) 368 t os
abbrev GT(w:Ak)(n:Nat)(F:Obj->Obj)(t:Nat){α:Type}(m:Sem α)(r:α)(t':Nat):Prop:=GG p b w n (S0 os w F t) m r (S0 os w F t') id
def Z98(w:Ak):GG p b w 69 (stT (TD w.params) 352 661 os) (evalPairs (pairTrees exF.2.1 exF.2.2.1 Post.env_1 exF.2.2.2.1)) [(.ref 352,.ref 353),(.ref 354,.ref 355),(.ref 356,.ref 357),(.ref 358,.ref 359),(.ref 360,.ref 361),(.ref 362,.ref 363),(.ref 364,.ref 365),(.ref 366,.ref 367)] (S0 os w (λ_=>D0) 690) (λ_=>exF.2.2.2.1):=by intros;intro _ _ _ _ _;kernel_rfl
def Zbw(w:Ak)(F:Obj->Obj)(t:Nat):∀i,i<8->GT p b os w 1 F t (cRoomFor "hash" [.ref (352+2*i)]) () t:=by apply al8<;>(intros;intro _ _ _ _ _;kernel_rfl)
def Zbv(w:Ak)(F:Obj->Obj)(t:Nat):∀i,i<8->GT p b os w 1 F t (specialOf (.ref (352+2*i)) "__hash__") (some (.builtin "tuple.__hash__")) t:=by apply al8<;>(intros;intro _ _ _ _ _;kernel_rfl)
def Z3U(w:Ak)(F:Obj->Obj)(t:Nat):∀i,i<8->GT p b os w 3 F t (eqIsQuiet 8 (.ref (352+2*i))) true t:=by apply al8<;>(intros;intro _ _ _ _ _;kernel_rfl)
def Zbx:∀(w:Ak) (i:Nat),i<8->∀(a:Sem Ad) (F:Obj->Obj) (t:Nat),GT p b os w 20 F t (callSpecialIfBoundUnlessNone? (.ref (352+2*i)) "__hash__" a) (some (.int (hF w.params i) (t+2))) (t+3):=byRow2 "special-get-raises" (λw=>by apply al8<;>(intros;intro _ _ _ _ _;kernel_rfl)) (λw=>by apply al8<;>(intros;intro _ _ _ _ _;kernel_rfl))
def Ze0:∀(w:Ak) (i:Nat),i<8->∀j,j<8->j<i->∀(F:Obj->Obj) (t:Nat),GT p b os w (bif i==6&&j==5 then 20 else 16) F t (eqBool (.ref (352+2*j)) (.ref (352+2*i))) false t:=byRow2 "special-get-raises" (λw=>by apply al8<;>(apply al8<;>(intro h;first|exact absurd h (by decide)|(intros;intro _ _ _ _ _;kernel_rfl)))) (λw=>by apply al8<;>(apply al8<;>(intro h;first|exact absurd h (by decide)|(intros;intro _ _ _ _ _;kernel_rfl))))
def ZcU(P:Params)(X:Obj):((T0 P).set 351 (λ_=>X)).get 351=some X:=by kernel_rfl
def TA(P:Params)(X:Obj):BT:=((T0 P).set 351 (λ_=>X)).set 3 (Obj.putName "FORMS" (PyData.keyHash P "FORMS") (.str "FORMS" 714) (.ref 351))
def Zbu(w:Ak):GG p b w 0 (stT (Post.tree_370 w.params) 351 661 os) (swapsWithSole exF.1 (.Dict exF.2.1 exF.2.2.1 exF.2.2.2.1) exF.2.2.2.2.line Post.env_1) false (stT (Post.tree_370 w.params) 351 661 os) id:=by intros;intro _ _ _ _ _;kernel_rfl
def Zby(w:Ak)(X:Obj):GG p b w 7 (S0 os w (λ_=>X) 714) (swappedStores exF.1 (.Dict exF.2.1 exF.2.2.1 exF.2.2.2.1) Post.env_1 >>= λx=>assignStores Post.env_1 (.ref 351) x ((assignEach exF.1 Post.env_1).map (·.2))) .next (stT (TA w.params X) 368 715 os) (λ_=>⟨230,0,230,5⟩):=by intros;intro _ _ _ _ _;kernel_rfl
variable (p:Aj)(b:Ab Stmt)(os:OsState)(w:Ak)
def GG.tp{p:Aj}{b:Ab Stmt}{w:Ak}{n:Nat}{s s':SharedT}{α:Type}{m:Sem α}{r:α}{g:Pos->Pos}(h:GG p b w n s m r s' g):Tp ⟨p,w,11,some (.ref 6),b,Post.env_1,⟨0,0,0,0⟩⟩ n m s.abs r s'.abs:=Tp.of_goT λK H gd lv ai=>⟨_,h K H gd lv ai⟩
def eF(P:Params)(i:Nat):DictEntry:=⟨reduceHash (hF P i),.ref (352+2*i),.ref (353+2*i)⟩
def sF(P:Params):Nat->Ae DictEntry
 |0=>#[]
 |i+1=>(sF P i).push (eF P i)
theorem Y9(P:Params):∀i,(sF P i).size=i
 |0=>rfl
 |i+1=>by show((sF P i).push _).size=_;rw[Array.size_push,Y9 P i]
theorem Z1{P:Params}{Q:DictEntry->Prop}:∀i,(∀j,j<i->Q (eF P j))->∀e∈sF P i,Q e
 |0,_=>all_nil
 |i+1,h=>Z8n (Z1 i λj hj=>h j (by omega)) (h i (by omega))
abbrev S1(i t:Nat):Ac:=(S0 os w (λ_=>dX (sF w.params i) i) t).abs
def Z18(i:Nat)(hi:i<8):Tp ⟨p,w,11,some (.ref 6),b,Post.env_1,⟨0,0,0,0⟩⟩ (24+((1+(3+i*3)+i*(20+3))+4)) (dictSet 351 (.ref (352+2*i)) (.ref (353+2*i))) (S1 os w i (690+3*i)) () (S1 os w (i+1) (690+3*i+3)):=by
 have h:=Tp.dictSetT (z:=⟨p,w,11,some (.ref 6),b,Post.env_1,⟨0,0,0,0⟩⟩) (T:=T0 w.params) (D:=351) (n:=368) (t:=690+3*i) (t':=690+3*i+3) (ep:=i) (es:=sF w.params i) (os:=os) (life:={ }) (gens:={ toList:=[] }) (drawn:={ }) (a:=352+2*i) (v:=.ref (353+2*i)) (h:=reduceHash (hF w.params i)) (ch:=24) (ce:=20) (cq:=3) (ZcU _ _) (by decide) rfl (by rw[Y9];exact Qay (show i+1<=8 by omega) (by decide))
  (Tp.pyHash_ref (n:=20) (Zbw p b os w _ _ i hi).tp (Zbv p b os w _ _ i hi).tp λf=>(Zbx p b os w i hi f _ _).tp)
  (Z1 i λj hj=>beq_eq_false_iff_ne.mpr λe=>by have e:352+2*j=352+2*i:=Value.ref.inj e;omega) (Z3U p b os w _ _ i hi).tp (Z1 i λj hj=>(Z3U p b os w _ _ j (Nat.lt_trans hj hi)).tp)
  (Z1 i λj hj=>Tp.mono (by cases (i==6&&j==5)<;>decide) (Ze0 p b os w i hi j (Nat.lt_trans hj hi) hj _ _).tp)
 rw[Y9]at h;exact h
def Z81:Tp ⟨p,w,11,some (.ref 6),b,Post.env_1,⟨0,0,0,0⟩⟩ 1063 (exec stF Post.env_1) (stT (Post.tree_370 w.params) 351 661 os).abs .next (stT (TA w.params (dX (sF w.params 8) 8)) 368 715 os).abs:=by
 rw[Zbe];refine Tp.Assign (c:=1055) (c':=7) (Zbu p b os w).tp ?_ (Zby p b os w _).tp;have f:(stT (TD w.params) 352 661 os).abs={ (stT (Post.tree_370 w.params) 351 661 os).abs with heap:=(stT (Post.tree_370 w.params) 351 661 os).abs.heap.push { cls:=.type "dict",data:=.dict #[] } }:=congrArg (λh=>Shared.mk h { toList:=[] } { } 661 os) (absHeap_ins (by kernel_rfl));have a:(stT (Post.tree_370 w.params) 351 661 os).abs.heap.objs.size=351:=absHeap_size _ _ _;have l:exF.2.1.length=8:=by kernel_rfl
 have h:=Tp.Dict (z:=⟨p,w,11,some (.ref 6),b,Post.env_1,⟨0,0,0,0⟩⟩) (s:=(stT (Post.tree_370 w.params) 351 661 os).abs) (keys:=exF.2.1) (values:=exF.2.2.1) (ai:=exF.2.2.2.1) (vs:=[(.ref 352,.ref 353),(.ref 354,.ref 355),(.ref 356,.ref 357),(.ref 358,.ref 359),(.ref 360,.ref 361),(.ref 362,.ref 363),(.ref 364,.ref 365),(.ref 366,.ref 367)]) (c:=69) (c':=984) (s₁:=S1 os w 0 690) (s₂:=S1 os w 8 714) (by kernel_rfl) (by kernel_rfl) (by intro h;rw[h]at l;cases l) (by rw[l];decide) (by rw[<- f];exact(Z98 p b os w).tp) ?_
 .rw[a]at h;exact h
 .rw[a];exact Tp.mono (by decide) (Tp.storeAll_cons (Z18 p b os w 0 (by decide)) (Tp.storeAll_cons (Z18 p b os w 1 (by decide)) (Tp.storeAll_cons (Z18 p b os w 2 (by decide)) (Tp.storeAll_cons (Z18 p b os w 3 (by decide)) (Tp.storeAll_cons (Z18 p b os w 4 (by decide)) (Tp.storeAll_cons (Z18 p b os w 5 (by decide)) (Tp.storeAll_cons (Z18 p b os w 6 (by decide)) (Tp.storeAll_cons (Z18 p b os w 7 (by decide)) (Tp.storeAll_nil)))))))))
def TZ(P:Params)(X:Obj):BT:=(((((((((Post.tree_656 P).set 351 (λ_=>X)).set 352 (λ_=>oF352)).set 354 (λ_=>oF354)).set 356 (λ_=>oF356)).set 358 (λ_=>oF358)).set 360 (λ_=>oF360)).set 362 (λ_=>oF362)).set 364 (λ_=>oF364)).set 366 (λ_=>oF366)
def Z1j:Ab Stmt:=pK.main.body.drop 60
def Z6R(X:Obj)(ai:Pos):segRunT treeTable p w 11 (some (.ref 6)) 1 1600 (stT (TA w.params X) 368 715 os) (piecesOf Z1j Post.env_1 (.body b Post.env_1) ai [topFrame ⟨0,0,0,0⟩])=some (.next,stT (TZ w.params X) 618 1044 os,.body b Post.env_1,⟨511,0,521,15⟩):=by kernel_rfl
local macro_rules | `(tactic| walk_at $s) => do
 let k:=s.getString
 if k != "hZ" && k != "KK" && k != "aK" then Lean.Macro.throwUnsupported
 let run (s:String):Ab Nat:=(s.splitOn " ").flatMap fun t=>match t.splitOn "-" with
  |[a,b]=>(List.range (b.toNat!+1)).drop a.toNat!
  |_=>[t.toNat!]
 let os:=run "10000-10002 648 10004-10010 1 649 3-4 7-60 64-108 112-120 188 122-136 141-152 157-168 173-184 189-235 239-316 320-370 30000 20352 378 20354 380 20356 382 20358 384 20360 386 20362 388 20364 390 20366 392-409 415-468 472-554 558-646 650-656"
 let fr:=run "2-3 22 25-31 34-35 38-41 43-44 46-49 51-52 54-57 59-60 62-64 67-69 71-72 74-76 79-81 83-84 86-88 90-91 93-95 98-100 102-103 105-107 109-110 112-114 121-124 127 134-136 139 146-148 151 158-160 163 170-172 175 182-184 187 189-190 192-194 196-197 199-201 203-204 206-208 210-211 213-215 217-218 220-222 225-227 229-230 232-234 236-237 239-241 243-244 246-248 251-254 257-259 262-264 267-269 271-272 274-276 278-279 281-283 285-286 288-290 293-295 298-300 303-305 308-311 313-314 316-318 320-321 323-325 327-328 330-332 334-335 337-339 341-342 344-346 349-368 370-371 373-375 378-380 383-385 387-388 390-392 394-395 397-399 402-404 406-407 409-410 418 420-421 423-425 427-428 430-436 439 441-442 444-446 449-451 453-454 456-458 460-461 463-465 467-468 470-472 474-475 477-479 482-484 487-489 491-492 494-496 499-501 503-504 506-508 510-511 513-515 517-518 520-522 524-525 527-529 531-532 534-536 538-539 541-543 545-546 548-550 552-553 555-557 559-560 562-564 566-567 569-571 573-574 576-578 580-581 583-585 587-588 590-592 594-595 597-599 602-604 606-607 609-611 613-614 616-617"
 let P:=Lean.mkIdent `P
 let ob (n : Nat) (X : Lean.Term) : Lean.MacroM Lean.Term := if n = 30000 then pure X else if n ≥ 20000 then pure (Lean.mkIdent (`FR ++ .mkSimple s!"oF{n - 20000}")) else `($(Lean.mkIdent (if n ≥ 10000 then `PySem.W ++ .mkSimple s!"boot_o_{n - 10000}" else `Post ++ .mkSimple s!"o_{n}")) $P)
 let nl (n : Nat) : Lean.MacroM Lean.Term := `(nat_lit $(Lean.Syntax.mkNumLit (toString n)))
 if k = "hZ" then
  let ts <- os.toArray.mapM (ob · (Lean.mkIdent `X))
  `(tactic| exact ⟨⟨[$ts,*]⟩, { }⟩)
 else if k = "aK" then
  let ts <- fr.toArray.mapM nl
  `(tactic| exact [$ts,*])
 else
  let r <- fr.reverse.foldlM (init := <- `([])) fun r a => do `(($(<- nl a), $(<- ob (os.getD a 0) (<- `($(Lean.mkIdent `FR.XZ) $P)))) :: $r)
  `(tactic| exact $r)
def hZ(P:Params)(X:Obj):Ah:=by walk_at "hZ"
def Zdl(P:Params)(X:Obj):absHeap (TZ P X) 618 { }=hZ P X:=by kernel_rfl
def XZ(P:Params):Obj:=dX (sF P 8) 8
abbrev bK:Ab Stmt:=behindTheImports pK
def Zat:bK=Post.sts_4++(Post.sts_62++(Post.sts_110++(Post.sts_138++(Post.sts_154++(Post.sts_170++(Post.sts_186++(Post.sts_237++(Post.sts_318++([stF]++(Z1j++[])))))))))):=by kernel_rfl
noncomputable abbrev cK:Code:=.body bK Post.env_1
abbrev q0:Pos:=⟨0,0,0,0⟩
variable (w:Ak)(os:OsState)
abbrev sE:Ac:=(stT (TZ w.params (XZ w.params)) 618 1044 os).abs
abbrev tR(n:Nat)(s:Ac)(t:Thread):Prop:=topRun treeTable pK w 11 (some (.ref 6)) n s t=some (sE w os)
def Z92:topGo treeTable pK w 11 (some (.ref 6)) 12 ⟨boot_heap w.params,⟨[]⟩,boot_drawn,boot_toks,os⟩ (topStub pK)=some ((stT (Post.tree_4 w.params) 15 187 os).abs,⟨denote treeTable cK,cK,q0,[topFrame q0]⟩):=by kernel_rfl
def Z5d:segRun treeTable pK w 11 (some (.ref 6)) 1 1 (stT (Post.tree_4 w.params) 15 187 os).abs (blockOf bK Post.env_1 cK q0 [topFrame q0])=some (.next,(stT (Post.tree_4 w.params) 15 187 os).abs,cK,q0):=by kernel_rfl
def Z93:tR w os 2 (sE w os) ⟨doneF .next,cK,⟨511,0,521,15⟩,[topFrame q0]⟩:=by kernel_rfl
def k1(ai:Pos):tR w os (1600+2) (stT (TA w.params (XZ w.params)) 368 715 os).abs (restOf (Z1j++[]) Post.env_1 cK ai [topFrame q0]):=piece_app (segRun_of (Z6R pK bK os w (XZ w.params) ai)) (piece_nil (Z93 w os))
def k2:tR w os (1063+(1600+2)) (stT (Post.tree_370 w.params) 351 661 os).abs (restOf (stF::(Z1j++[])) Post.env_1 cK ⟨229,0,229,8⟩ [topFrame q0]):=Z7i (z:=⟨pK,w,11,some (.ref 6),bK,Post.env_1,q0⟩) (Z81 pK bK os w) (k1 w os)
def k3:tR w os (Nat.add 377 (Nat.add 221 (Nat.add 400 (Nat.add 214 (Nat.add 214 (Nat.add 214 (Nat.add 380 (Nat.add 394 (Nat.add 386 (1063+(1600+2))))))))))) (stT (Post.tree_4 w.params) 15 187 os).abs (restOf (Post.sts_4++(Post.sts_62++(Post.sts_110++(Post.sts_138++(Post.sts_154++(Post.sts_170++(Post.sts_186++(Post.sts_237++(Post.sts_318++([stF]++(Z1j++[]))))))))))) Post.env_1 cK q0 [topFrame q0]):=piece_app (Post._proof_62 w pK bK os) (piece_app (Post._proof_110 w pK bK os) (piece_app (Post._proof_138 w pK bK os) (piece_app (Post._proof_154 w pK bK os) (piece_app (Post._proof_170 w pK bK os) (piece_app (Post._proof_186 w pK bK os) (piece_app (Post._proof_237 w pK bK os) (piece_app (Post._proof_318 w pK bK os) (piece_app (Post._proof_374 w pK bK os) (k2 w os)))))))))
def k4:tR w os (1+Nat.add 377 (Nat.add 221 (Nat.add 400 (Nat.add 214 (Nat.add 214 (Nat.add 214 (Nat.add 380 (Nat.add 394 (Nat.add 386 (1063+(1600+2))))))))))) (stT (Post.tree_4 w.params) 15 187 os).abs ⟨denote treeTable cK,cK,q0,[topFrame q0]⟩:=piece_block (Z5d w os) (by have h:=k3 w os;rw[<- Zat]at h;exact h)
abbrev MK:Nat:=12+(1+Nat.add 377 (Nat.add 221 (Nat.add 400 (Nat.add 214 (Nat.add 214 (Nat.add 214 (Nat.add 380 (Nat.add 394 (Nat.add 386 (1063+(1600+2)))))))))))
def Z91:topRun treeTable pK w 11 (some (.ref 6)) MK ⟨boot_heap w.params,⟨[]⟩,boot_drawn,boot_toks,os⟩ (topStub pK)=some ⟨hZ w.params (XZ w.params),⟨[]⟩,{ },1044,os⟩:=(go_top (Z92 w os) (k4 w os)).trans (congrArg some (by show SharedT.abs _=_;unfold SharedT.abs;rw[Zdl]))
def KK:Params->Frag:=λP=>by walk_at "KK"
def asK:Ab Af:=by walk_at "aK"
def qK:Aj:=view pK [1,6,7,8,9,10,11,12,13,15,16,17,18,19,20,22,23,24,25,26,27,28,29,30,32,35,36,37,39,40,41,42,43,44,46,47,48,49,50,51,52,53,54,55,56,57,59,60,61,62,63,64,65,66,68,69,70,71,72,73,74,75,76,78,79,80,81,82,83,84,85,86,87,88,89,90,91,92,93,94,95,96]
def looseK:Ab Str:=["bits_for","outs_for","tables","out_tables","answers","NUMBERS_BEHIND","FORMS"]
abbrev rK:=PySem.Challenge.rw_stuckwire_k60_lines_read.row
abbrev sZ(P:Params)(es:Ae DictEntry)(ep:Nat)(os:OsState):Ac:=⟨hZ P (dX es ep),⟨[]⟩,{ },1044,os⟩
abbrev Z7A:=importedModules pK.main.body
variable (P:Params)(es:Ae DictEntry)(ep:Nat)(os:OsState)
def ZcO(w:Ak):((boot_heap w.params).isNs mainGlobals&&(⟨[]⟩:Ae GenState).size==0,(boot_heap w.params).objs.size,(boot_heap w.params).nsMap mainGlobals "__annotations__")=(true,11,some (.ref 6)):=by kernel_rfl
def lk0:(staticsOk Z7A (boot_heap P) (hZ P (dX es ep))&&namesBound pK (hZ P (dX es ep))&&gensDone (sZ P es ep os)&&laidKept (boot_heap P) (hZ P (dX es ep)))=true:=by kernel_rfl
def lk1:seen ((recsOf qK).map (·.name)) (ownsOf qK) [] { (sZ P es ep os)with gens:=#[] }=expectedOf qK:=by kernel_rfl
def lk2:(sZ P es ep os).heap.bltView=bltViewBooted:=by kernel_rfl
def an{a b:Bool}(h:a=true)(k:b=true):(a&&b)=true:=by rw[h,k];rfl
def lk3:((sZ P es ep os).heap.keysOk (looseW qK looseK) ((recsOf qK).map (·.name)) ((litsOf qK).map (·.1)) ((clssOf qK (looseW qK looseK)).map (·.name))&&(sZ P es ep os).heap.accountedOkI Z7A&&(sZ P es ep os).heap.isNs mainGlobals&&(sZ P es ep os).heap.isNs builtinsNs&&tablesOk qK (sZ P es ep os).heap&&(xlAt qK [] (sZ P es ep os)&&recOk (RowW.records rK.toRowW) (sZ P es ep os))&&(if true then(sZ P es ep os).gens.size==0 else !leftWithCleanup (sZ P es ep os).gens))=true:=(an (an (an (an (an (an (by kernel_rfl) (by kernel_rfl)) (by kernel_rfl)) (by kernel_rfl)) (by kernel_rfl)) (by kernel_rfl)) (by kernel_rfl))
def lk4:tabsOk qK (sZ P es ep os)=true:=(an (an (an (by kernel_rfl) (by kernel_rfl)) (by kernel_rfl)) (by kernel_rfl))
def lk5:pinSeenD qK (drecsOf qK) (sZ P es ep os)=pinGoodD (drecsOf qK):=by kernel_rfl
def lk6:plainSeenE qK (looseW qK looseK) (sZ P es ep os)=plainGoodE qK (looseW qK looseK):=by kernel_rfl
def lk7:plainSeenD qK looseK (sZ P es ep os)=plainGoodD qK looseK:=by kernel_rfl
def lk8:wideSeen qK (sZ P es ep os)=wideGood qK:=by kernel_rfl
def lk9:clsSeenW qK looseK (sZ P es ep os)=clsGoodW qK looseK:=by kernel_rfl
def asK_eq(P:Params):asK=(KK P).map (·.1):=by kernel_rfl
abbrev HK:Hook:=kHook KK asK asK_eq
def lkK(w:Ak):HK.obs (sZ w.params (sF w.params 8) 8 os)=HK.val w:=by kernel_rfl
def opK:opening pK=plainProg pK.main.scope.names:=by kernel_rfl
def feK(s:Ac):fenceModules? pK s=some s:=by kernel_rfl
def lkS:openSeen qK looseK Z7A (λs=>xlAt qK [] s&&recOk (RowW.records rK.toRowW) s) true (sZ P es ep os)=openGood qK looseK:=by
 unfold openSeen openGood;exact looks_pair (lk1 P es ep os) (looks_pair (lk2 P es ep os) (looks_pair (lk3 P es ep os) (looks_pair (lk4 P es ep os) (looks_pair (lk5 P es ep os) (looks_pair (lk6 P es ep os) (looks_pair (lk7 P es ep os) (looks_pair (lk8 P es ep os) (lk9 P es ep os))))))))
def leftK:LeftO pK qK looseK (λs=>xlAt qK [] s&&recOk (RowW.records rK.toRowW) s) (Hook.obs HK) (Hook.val HK) 8898 :=
 LeftO.of_pieces (H₀:=boot_heap) (H₁:=λP=>hZ P (XZ P)) (gs₀:=⟨[]⟩) (gs₁:=⟨[]⟩) (d₀:=boot_drawn) (d₁:={ }) (k₀:=boot_toks) (k₁:=1044) (m₀:=11) (ann:=some (.ref 6)) (M:=MK) (boot_open opK (by decide) feK) ZcO Z91 (by decide) (λw=>funext λos=>looks_pair (lk0 w.params _ 8 os) (looks_pair (lkS w.params _ 8 os) (lkK os w)))
end FR
set_option maxHeartbeats 0
namespace G
open PySem PySem.Spec PyProof.Rows L2 PD
def Saa:fL ["self","ins","rows","outs"] ["self","ins","rows","outs"] (aS mF):=Rn
def Sab:fL ["self"] ["self"] (aS qN):=Rn
example:∃x,x=(PySem.Challenge.rw_stuckwire_k60_lines_read,FR.KK):=by k_fill;exact⟨_,rfl⟩
structure HY(P:Program)(w:World)(K:Frag)(mg:Str->Option Value)(base:Heap)(C CD CL CE CW yg yh yi:Addr):Prop extends HB FR.KK P w K mg base where
 ye:NoAttr K C "ins"
 yj:NoAttr K C "rows"
 ym:NoAttr K C "outs"
 y0:HCl K "Circuit" C mF "Circuit.__init__"
 yl:NoAttr K CD "circuit"
 yk:HCl K "Desk" CD qN "Desk.__init__"
 yo:∃t,mg "FIGURES" = some (.str "0123456789" t)
 yp:∃t,mg "MOST_FIGURES" = some (.int 9 t)
 yn:∃t,mg "MOST_INS" = some (.int 8 t)
 yq:∃t,mg "MOST_OUTS" = some (.int 16 t)
 zq:Zb1 K w.params mg "NUMBERS_BEHIND" [("fix",1),("not",1),("and",2),("or",2),("xor",2)]
 yr:∃t,mg "MOST_ROWS" = some (.int 60 t)
 zr:Zb0 K P w mg "FORMS" [([.inr "give",.inl 1],["number"]),([.inr "stuck",.inl 3],["number","bit","number"]),([.inr "leg",.inl 4],["number","bit","bit","number"]),([.inr "faults",.inl 0],[]),([.inr "idle",.inl 0],[]),([.inr "tells",.inl 2],["number","bit"]),([.inr "tells",.inl 3],["number","bit","bit"]),([.inr "lean",.inl 0],[])]
 yz:HMe K "say" CD ZaH "Desk.say"
 yt:nsIn K mainGlobals "NotTold" = some (some (.ref yg))
 yu:nsIn K mainGlobals "TooGreat" = some (some (.ref yi))
 z0:nsIn K mainGlobals "StuckError" = some (some (.ref yh))
 z9:PySem.W.kitOne K (.ref CL) (.ref CE)=some false
 za:PySem.W.kitOne K (.ref CW) (.ref CE)=some false
 zb:PySem.W.kitOne K (.ref CE) (.ref CL)=some false
 zc:PySem.W.kitOne K (.ref CW) (.ref CL)=some false
 zd:PySem.W.kitOne K (.ref CL) (.ref CW)=some false
 ze:PySem.W.kitOne K (.ref CE) (.ref CW)=some false
 zf:PySem.W.kitOne K (.ref CL) (.ref yg)=some false
 zg:PySem.W.kitOne K (.ref CE) (.ref yg)=some false
 zh:PySem.W.kitOne K (.ref CW) (.ref yg)=some false
 zi:PySem.W.kitOne K (.ref CL) (.ref yi)=some false
 zj:PySem.W.kitOne K (.ref CE) (.ref yi)=some false
 zk:PySem.W.kitOne K (.ref CW) (.ref yi)=some false
 yd:HXc K "NoLine" CL yh
 yc:HXc K "NoCircuit" CE yh
 yf:HXc K "NoWire" CW yh
section
variable {P:Aj}{w:Ak}{K:Frag}{mg:Str->Aa Ad}{ad:Ah}{C CD CL CE CW yg yh yi:Af}(Y:HY P w K mg ad C CD CL CE CW yg yh yi)
include Y
def oW:mg "ValueError" = none:=Y.z (by k_is)
def Zay:mg "all" = none:=Y.z (by k_is)
def yR:mg "enumerate" = none:=Y.z (by k_is)
def kZ:mg "int" = none:=Y.z (by k_is)
def bG:mg "isinstance" = none:=Y.z (by k_is)
def cI:mg "len" = none:=Y.z (by k_is)
def Z6m:mg "list" = none:=Y.z (by k_is)
def Z6l:mg "max" = none:=Y.z (by k_is)
def jT:mg "range" = none:=Y.z (by k_is)
def Z6k:mg "sorted" = none:=Y.z (by k_is)
def mE:mg "str" = none:=Y.z (by k_is)
def A7:mg "tuple" = none:=Y.z (by k_is)
def Z3E:mg "zip" = none:=Y.z (by k_is)
def mQ:W0 P w K mg ad "Circuit" C 1 3 (gK C):=by
 refine Y.y0.m Y.x (ps:=["self","ins","rows","outs"]) λfA fd F=>?_;have nd:=Saa.nd;refine F.raw Saa (λvs H Q E h=>Z3L h) λcdv A af s H vs Q E hr hsp=>?_;obtain⟨x,dx,H0,us,ds,d,fp,rfl,n,l,f,rfl,h1,h2,h3,q⟩:=hsp;obtain⟨F,hF⟩:=Z2 h2;have u:=h2.length
 match ds,us,h1,u,hF,h3 with
 |[i,r,o],[u1,u2,u3],_,_,hF,h3 =>
  unfold gK at h3;simp only at h3;split at h3
  .rename_i a b c p t y;cases h3;refine⟨_,mK (xQ (pv 0) (show QE _ true [] _ _ from(QE.flat (aC 1))) rfl) (mK (xQ (pv 0) (show QE _ true [] _ _ from(dS (fr:=[]) rfl (by rfl) (cO (aC 2)) (show List.Nodup (["row"]:Ab Str) from by decide +kernel) (by rfl) (λ_ _ _ _ _ _=>dJ) (λ_ _ _ _ _ _=>(qp (G2 (by rfl) (A7 Y) (aC 0)))))) rfl) (sM (xQ (pv 0) (show QE _ true [] _ _ from(qp (Z9l (by rfl) (Z6m Y) (aC 3)))) rfl))),?_⟩
   refine Zdf (F:=λi=>F (i-1)) (us:=[u1,u2,u3]) (ds:=[i,r,o]) (fp:=fp) n l f (λj ow d' e=>?_) rfl p t y (Y.y0.cl) Y.ye Y.yj Y.ym (by decide +kernel) (by decide +kernel) (by decide +kernel) q
   match j,e with
   |1,e=>cases e;exact(let ⟨v,a1,a2⟩:=hF 0 i rfl;⟨v,by cases a1;rfl,a2⟩)
   |2,e=>cases e;exact(let ⟨v,a1,a2⟩:=hF 1 r rfl;⟨v,by cases a1;rfl,a2⟩)
   |3,e=>cases e;exact(let ⟨v,a1,a2⟩:=hF 2 o rfl;⟨v,by cases a1;rfl,a2⟩)
   |0,e=>cases e
   |j+4,e=>cases e
  .cases h3
def Z9U:W0 P w K mg ad "Desk" CD 3 0 (Z0f C CD):=by
 refine Y.yk.m Y.x (ps:=["self"]) λfA fd F=>?_;have nd:=Sab.nd;refine F.raw Sab (λvs H Q E h=>Z3L h) λcdv A af s H vs Q E hr hsp=>?_;obtain⟨x,dx,H0,us,ds,d,fp,rfl,i,f,b,rfl,h1,h2,h3,q⟩:=hsp;obtain rfl:=Qbk h1;have n:=h2.length;obtain rfl:=Qbk n;unfold Z0f at h3;simp only at h3;split at h3
 .rename_i a l;cases h3;exact⟨_,sM (xQ (pv 0) (show QE _ true [] _ _ from(Z44 (mQ Y) (hr.mono (by decide)) (.cons (.cons (.cons NArgs.nil))) (aB (QE.weak (qp aE)) (aB (QE.weak (aV (aB (nS (aB (qp aI) (aB (qp aE) aP))) aP))) (aB (QE.weak (aV (aB (qp aE) aP))) (Qn [])))))) rfl),Zdg (F:=λ_=>[]) (ac:=[none]) i f b (λj ow d' e=>by match j,e with|0,e=>cases e|j+1,e=>cases e) rfl l (Y.yk.cl) Y.yl q⟩
 .cases h3
def N4:bB P w K mg ad "_law_whole_word" [] 1 1 (fY C):=Y.c (top 87) ["_law_word","_law_sign"] λnd hr=>by walk_at"@rn.uy#s#s76/wit_qs;/wDy+5vTw)y,y-,y+sUw)y,y-,v3/y.,w*uz,uz,w*{GuF"
def iX:bB P w K mg ad "_law_below" [] 2 2 (dF C):=Y.c (top 88) ["_law_words_here","_law_most","_law_word"] λnd hr=>by walk_at"@rnuGru%{HuHtPr_2u{,6tArvt_qvyuF"
def Z0P:bB P w K mg ad "_law_row_fine" [] 3 2 (lJ C):=Y.c (top 89) ["_law_words_here","_law_at"] λnd hr=>by walk_at"@vUvUrvuIwDvVswsM56IvWr_v3/t`vX3tFrzw*uzsRs7r-/8/8/tRtaw+,uIwDvVvYv0w*uz,uzuF"
def Z2h:bB P w K mg ad "_law_circuit" [] 4 1 (iU C):=Y.c (top 91) ["_law_parts_here","_law_at","_law_part"] λnd hr=>by walk_at"@sUtBs7vZ.u|v3r*t)Br,r-srs&v,sjsjsht_wGr-sw5v[s;tbr*t)w=tbsrtBw=tbsrsnv,sjsjsht_#r_r-r*u{,r`v]s4r%{IsIru%{Jr6rD!#sbtPt_#t*r77s<t8vVtbvYv0uJ"
def uI:bB P w K mg ad "_law_fault_due" [] 3 1 (jY C):=Y.c (top 92) ["_law_words_here"] λnd hr=>by walk_at"@sUtBsUsnwGrwv(w98v^v[vVsw5v[v,sjsjshscuIrNv3t)rvscr-Is5"
def uH:bB P w K mg ad "_law_given_due" [] 4 1 (jX C):=Y.c (top 93) ["_law_words_here","_law_due_here"] λnd hr=>by walk_at"@uKy/rws4uLt+7vVs4r%v+8v^v[scx-6r/y0w)y1y2,wTs;tbt)s=scv_r#"
def Q2:bB P w K mg ad "_law_named_due" [] 3 1 (jW C):=Y.c (top 94) ["_law_words_here","_law_bits","_law_word"] λnd hr=>by walk_at"@uIrNtMvTx;wGrwuM8v^v[v,sjshsc#v]uMr`uNrur,r92uy~_law_sign~[tJs7x<wiv`srsnscqBr9sPrwuMs(~_law_word~[tJs;t)v`r9uN~_law_word~[tJuIs&v`s,vZs&scvau|vau|s=/Gt,vWr_vaw+,v1rduJr#"
def Z69:bB P w K mg ad "_law_parts" [] 1 1 (sT C):=Y.c (top 90) ["_law_words_here","_law_parts_here","_law_word"] λnd hr=>by walk_at"@uOrXr`uGruB2rEuOrTr;uP#s42Iy3r;wNqv_"
def Zar:bB P w K mg ad "_law_due" [] 5 1 (fS C):=Y.c (top 95) ["_law_line_here","_law_words_here","_law_rest","_law_due_here"] λnd hr=>by walk_at"@#vb,t-vc7vau|vds7rk/8/8/tRtawis=rvscr^u$/wju}u}r_%{K%{LuHt+v1y4t.r^vds=%y5uPs2tQ2wk,t+Gr^vds=r^vds=rv%y5uHGr^&%y/uH7&t,vWr_ve/t`rdwju}y6r_x-`r/y0w)y1y2,v1y4s<tsuQ{MuHGvdt,/tcs)s7s2/tcrky7,rdGu$uJppr#"
def A5:bB P w K mg ad "_law_spoilt_line" [] 1 2 (kQ C):=Y.c (top 85) ["_law_line_here","_law_xs","_law_some","_law_sign","_law_at"] λnd hr=>by walk_at"@!/7vf!/7t.&2rPrku%s.Crd7-rPrkQsU?C7vfrwfr%uR.uSr%sDuRv!sRvfrwfr%uR`v!,.uSr%sDuRv!sRrwfr%uR`v!,.fr%sDuRv!,uJp"
def Z0Q:bB P w K mg ad "_law_odd_word" [] 1 1 (lK C):=Y.c (top 83) ["_law_number_here","_law_some"] λnd hr=>(by
  refine aG (g:=(bJ 1 _)) ?_ ?_
  .refine Qs 1 ?_;refine aV ?_;refine B1 ?_
   repeat constructor
  refine aG (g:=(gE 1 1 _)) ?_ ?_
  .exact(oC 1 1 nd rfl (Or.inl rfl) (by refine aV ?_;refine B1 ?_;repeat constructor))
  .exact(aH (aN (QE.flat (aO (aC 1) (qp (aT cC (aC 0) (qp (bQ (by rfl) (cI Y) (aC 1))))))))))
def yM:bB P w K mg ad "_law_spoilt_words" [] 2 2 (jP C):=Y.c (top 84) ["_law_words_here","_law_xs","_law_at"] λnd hr=>by walk_at"@!rPrkvTC7vfrw2uL.Q2r7r%v+s,Gvfrw2uL.2rdrXs,.2r%v+s,Grw2uL%{Nu&#v)rXs,.Q2r7r%v+s,s5r#"
def Zaq:bB P w K mg ad "_law_new" [] 1 1 (Z0d C):=Y.c (top 81) ["_law_xs","_law_ins","_law_words_here","_law_rows","_law_k","_law_number_here","_law_at","_law_word"] λnd hr=>by walk_at"@#sdt-s2r/t*s-5vgsktNuTt`C?rKtc7&sdvhr:&spso-s#:skr-uSC7SQt*f?vgsks>XuTt`?7Tt,s2/sSZtas)rPs>Xrdt-!sN/TrxIr/tds>XuUwl58sM5SrxIvWr_BTrx/y.,v1vX3tFwm,CrKtcw,rPs>uTsn!r/tds>XuUwl58Sr1SrYwm,CrKrTt.u#pt8!!sNs2tQw,rnv4sMy8s)sdvX3w8so-s#!r/tdr-uSCuUwl58Qt*`?vgsktNuTt`?tRwm,CrKrTq!u-pp"
def vG:bB P w K mg ad "_law_number" [] 1 2 (mT C):=Y.c (top 80) ["_law_one","_law_other"] λnd hr=>by walk_at"@tM.x;t,vWtd6XXrysDQ5rP6X?r%xNsRr/sMy8s)td.XXryrKrp"
def Z68:bB P w K mg ad "_law_words" [] 2 1 (xY C):=Y.c (top 82) ["_law_xs","_law_way","_law_some","_law_words_here","_law_k"] λnd hr=>by walk_at"@#sdt-%wntetet/r/QsdvgsktNuTt`?rK%wntetet/tc765tB%{OrqGuVuPt,s2sStas)sdrduWtQsDQ5vgtN5t`?r%{PsRuVuPu$2wksRuV/uWr/sdrKtc2w>s,GuVu$2sDv(w9s,GuV/uWr/sdrKuWsStaG&u$vhQ5sd?stso-s#&&sN%wnskr-uSC8tet/t,s2/sSZtas)tdr-uSCXrdtQw,q&u-pppp"
def Z8i:bB P w K mg ad "_law_line" [] 3 1 (J8 C):=Y.c (top 86) ["_law_xs","_law_words_here"] λnd hr=>by walk_at"@uK{Qrq7tMtNt}/%{RrDL#1sbtCsRtMtNt}%{SwHtC,8Lt/GwHtC,s5r#"
def A6:bB P w K mg ad "bits_to_stick" [] 1 2 (iJ C):=Y.c (top 25) ["circuit","wire"] λnd hr=>by walk_at"@uXtABtfr5uX?ryr*rEs=r55tfr5uX?ryr*?rXGs%s<"
def zJ:bB P w K mg ad "leg_wires" [] 1 1 (qZ C):=Y.c (top 12) ["row"] λnd hr=>by walk_at"@vUsvGs%s<"
def pQ:bB P w K mg ad "sources_of" [] 2 2 (eS C):=Y.c (top 24) ["circuit","wire"] λnd hr=>by walk_at"@uXtBs%t.%y9tfr5uX?vXtIrp"
def N3:bB P w K mg ad "needed" [] 3 1 (kH C):=Y.c (top 22) ["circuit","marked","out","wire","source"] λnd hr=>by walk_at"@#y:r`visIrutg#2vy,y;qrnv4r5Qs1r,tfthr78r5s1r78s4tRZ{TuYtg`6{UrnsewoLr:s_sbs(-s#vjt.quU{V6{W,s5r#"
def lX:bB P w K mg ad "all_faults" [] 4 1 (fK C):=Y.c (top 23) ["circuit","faults","wire","bit","leg","source"] λnd hr=>by walk_at"@uOr`sewpuZrurnse{Xu[sbs(uY#/2I`IsSuqrTqrnsPUy<%wou[sbv&y=-:evk-u.:vlvjs<t8v_"
def Q3:bB P w K mg ad "fault_shown" [] 1 1 (tX C):=Y.c (top 76) ["fault"] λnd hr=>by walk_at"@.v#/G/r9sP.w>s(~number~tir/.rKsOtCuF"
def rW:bB P w K mg ad "faults_shown" [] 2 1 (jF C):=Y.c (top 75) ["faults"] λnd hr=>by walk_at"@s;vZrN/G/r9uG~fault~ti%{YrqsOtCuF"
def zL:bB P w K mg ad "differing" [] 1 2 (rA C):=Y.c (top 28) ["one_tables","other_tables","found","one","other"] λnd hr=>by walk_at"@!5r`r|uosqeulUw-u/w.u?vk&u.-vl!{Z2{[`f??7q2Is5"
def V3:bB P w K mg ad "at_outs" [] 1 2 (oM C):=Y.c (top 6) ["circuit","values"] λnd hr=>by walk_at"@rGssvisI~out~~values~u]6.rdsOi"
def Z0R:bB P w K mg ad "gate_value" [] 1 3 (lL C):=Y.c (top 13) ["row","legs","ones","kind"] λnd hr=>by walk_at"@&r-I7verEs-2r-CGu^u^u#pr#"
def Z0O:bB P w K mg ad "leg_values" [] 2 5 (pE C):=Y.c (top 11) ["row","wire","values","ones","fault","legs"] λnd hr=>by walk_at"@:sF![w;sNbsey9uZ~source~~values~u]6.rdsAy>fwqBfr*rEBfr*6rNx/wSshs%t.:u-"
def Z67:bB P w K mg ad "on_wire" [] 1 4 (sS C):=Y.c (top 10) ["value","wire","ones","fault"] λnd hr=>by walk_at"@`wqver*rEver*6rNx/wSshs-2`r*CGx5rp"
def Z4I:bB P w K mg ad "borne" [] 3 4 (vZ C):=Y.c (top 9) ["circuit","starts","ones","fault","values","start","row","wire","legs"] λnd hr=>by walk_at"@-svr`uN:s#vjrntfsISs#Tr,fs.7o%{]Sr1Tr1-r1r6r:ST-!&xntFZZv57-%{^%{_Sr1or1r6So!vm8Tr1r6r:T!&x=Zv5rTu#t8-u-r#"
def xB:bB P w K mg ad "full_table" [] 1 1 (fJ C):=Y.c (top 7) ["ins"] λnd hr=>by walk_at"@r5w/5w/5.CCr7i"
def rV:bB P w K mg ad "input_tables" [] 1 1 (fZ C):=Y.c (top 8) ["ins","found","k","width"] λnd hr=>by walk_at"@uOvhLt0soruu^s%u#t8v_"
def Z2f:bB P w K mg ad "tables" [] 4 2 (oJ C)/\bB P w K mg ad "tables" [.non] 4 2 (oJ C):=Y.d (top 4) ["circuit","fault"] λnd hr=>by walk_at"@%y?L%yAt1tI8%yBt1tI8rDvnv5i"
def jJ:bB P w K mg ad "out_tables" [] 5 2 (dY C)/\bB P w K mg ad "out_tables" [.non] 5 2 (dY C):=Y.d (top 5) ["circuit","fault"] λnd hr=>by walk_at"@%yCL%yDr{vo8t/i"
def M8:bB P w K mg ad "tellings" [] 6 2 (iQ C):=Y.c (top 27) ["circuit","faults","good"] λnd hr=>by walk_at"@u_v$s?rqt-1essuN~fault~~good~~circuit~r4wA%yErD%v$r{r6L!1sb8#v0sOrp"
def Zcl:bB P w K mg ad "idle" [] 7 1 (Z0e C):=Y.c (top 32) ["circuit","faults"] λnd hr=>by walk_at"@uKw0rq7r9r|uorGulUw-rD%yFvo8#rYw.~fault~~told~etJbuVytsA{`rp"
def lW:dE P w K mg ad "hold_fault" [] 3 2 (bZ C CW):=Y.e (top 73) ["circuit","fault"] λnd hr=>by walk_at"@6v#{at.{brkQs1r,tfthtAr)t{r)t|r^rkr,%wotjtzrzs.tAs=r)t{r)t|u`"
def Q1:bB P w K mg ad "least_given" [] 1 1 (tW C):=Y.c (top 30) ["told"] λnd hr=>by walk_at"@s;t}xOsRr5wr..{c,?{d,r7rp"
def Z66:bB P w K mg ad "telling" [] 7 2 (xX C):=Y.c (top 26) ["circuit","fault"] λnd hr=>by walk_at"@sM%yFL6IrX8t/s)r*Ii"
def A4:bB P w K mg ad "least_telling" [] 8 2 (iH C):=Y.c (top 29) ["circuit","fault"] λnd hr=>by walk_at"@%{e%{fvot+i"
def uG:dE P w K mg ad "least_shown" [] 9 2 (eG C CW):=Y.e (top 71) ["circuit","fault","given"] λnd hr=>by walk_at"@%w1ju/mr8w1ju/nw2u_{gvo72v#/r/2rKwsrpvp"
def lV:dE P w K mg ad "hold_given" [] 1 2 (dG C CW):=Y.e (top 74) ["circuit","given"] λnd hr=>by walk_at"@BwtuXC5s&r)t{r)t|um"
def Z6a:bB P w K mg ad "bits_at" [] 1 2 (sU C):=Y.c (top 35) ["found","given"] λnd hr=>by walk_at"@rGssuG~table~~given~u]wrwt.6Cr7sOi"
def Z6b:bB P w K mg ad "answers" [] 6 3 (sV C)/\bB P w K mg ad "answers" [.non] 6 3 (sV C):=Y.d (top 34) ["circuit","tests","fault","found"] λnd hr=>by walk_at"@&%v$r{u[sb7&[ssuN~test~~found~u]%{hrDL#1sbsOrp"
def xA:bB P w K mg ad "good_and_faults" [] 5 1 (fT C):=Y.c (top 37) ["circuit"] λnd hr=>by walk_at"@uarX%w0rqs,i"
def Zao:bB P w K mg ad "named" [] 7 3 (Z0a C):=Y.c (top 36) ["circuit","tests","told"] λnd hr=>by walk_at"@!sqr4ssse{iuZ~fault~~told~~circuit~~tests~xvtJB%{jr{r6r:L!&1vm6rNv`i"
def uE:dE P w K mg ad "named_shown" [] 8 3 (gZ C CW):=Y.e (top 72) ["circuit","tests","told","given","bits"] λnd hr=>by walk_at"@cw3r|uovNeulUw-rDr6vNrVw.u?vk&u.-vl%w4jLr:s_rVmr8w4jLr:s_rVnw2Br,fs.r,vis.s&r)t{r)t|umsBw5%yG%{kx0r6sq!vmt+ivp"
def Z3z:bB P w K mg ad "bits_for" [] 4 3 (mU C)/\bB P w K mg ad "bits_for" [.non] 4 3 (mU C):=Y.d (top 2) ["circuit","given","fault","starts"] λnd hr=>by walk_at"@&sFrGw;sNbv4t1t0so~k~~given~u]wrwt6.Cr7sAy>%y?Lr:58r6s_!x=Zv5rp"
def Z3x:bB P w K mg ad "outs_for" [] 5 3 (mS C)/\bB P w K mg ad "outs_for" [.non] 5 3 (mS C):=Y.d (top 3) ["circuit","given","fault"] λnd hr=>by walk_at"@%yCL%{lr{x0r6sq!vm8t/i"
def wZ:dE P w K mg ad "outs_shown" [] 6 3 (dW C CW):=Y.e (top 70) ["circuit","fault","given"] λnd hr=>by walk_at"@%w1ju/mr8w1ju/nw2%w4ju[rVmr8w4ju[rVnw2/r9se{mr{Lr6rDv/#vms(~bit~tir/.rKsOtC,itk"
def Z2i:dE P w K mg ad "answer" [] 10 2 (fG C CW):=Y.e (top 69) ["circuit","asked"] λnd hr=>by walk_at"@uQyHtlctju&vnvqyHtlctju&vnvrtuuQyIjtjtzvqyIjtjtzvrtuuQyJtlctju&vnvqyJtlctju&vnvrtuuQyG%{nrqt+Gr/r,%w0rqs.rKrptksB"
def Z0S:bB P w K mg ad "first_idle" [] 6 1 (lM C):=Y.c (top 40) ["circuit","good","fault"] λnd hr=>by walk_at"@uKv$s?rqr`sew0uZruB%yErD%v$r{u[sb8#v0t}s%t.quas5"
def Zap:bB P w K mg ad "moved" [] 1 2 (Z0b C):=Y.c (top 44) ["row","places"] λnd hr=>by walk_at"@vUx5Gs%s<"
def N2:bB P w K mg ad "needed_alone" [] 4 1 (jE C):=Y.c (top 43) ["circuit","places","wire","rows"] λnd hr=>by walk_at"@#y:vht1t0soruvj&svr`sewpuZru2s1tAtg#2Qs1r,`thy;&%{otfr52s1?vXrDtzrzrTs<tsq%w6tlt1r:rGssvisI~out~~places~u]tg6.yKub8s_rVZwuuJ"
def A3:bB P w K mg ad "without_spare" [] 5 2 (iF C):=Y.c (top 41) ["circuit","fault","values","ones","rows","bearers","wire","table","row","legs"] λnd hr=>by walk_at"@u_yDr{vo7&%yBt1tI7-/5vs/5vstQ7:5s1`Qs1r7{pyLyL{qr`sPUy<%yAt1tIv&y=STevkSu.TvlvjrnsewpuZSs#tg2Srxrys>{ru^u^u#r#tsq%{s%w6tlt1-r1:!essvisI~out~~bearers~~values~r4wAtg62.ryyKub8yrrVZwut+uJp"
def Zck:bB P w K mg ad "lean" [] 7 1 (Z0c C):=Y.c (top 39) ["circuit","found","fault"] λnd hr=>by walk_at"@uK{tLua8t/t-%{ux2v)7xH2wqu^s<{vv_r#"
def zK:bB P w K mg ad "is_number" [] 1 1 (iV C):=let ⟨_,yo⟩:=Y.yo;let ⟨_,yp⟩:=Y.yp;Y.c (top 57) ["word"] λnd hr=>by walk_at"@s;rEvTb{wvtsnrvt_vUs;t)s=t_uUyMr9.uy~sign~tis7.b{x{y,w+ubyN,s5"
def eQ:dE P w K mg ad "numbers_below" [] 2 2 (bX C CE):=Y.e (top 56) ["words","bound","numbers","word","number"] λnd hr=>by walk_at"@!svu+cw3uGuY%yOr:&v)tPt2-r_`u{ucf6tAt2!fIrTr;tksBw5!wBr;tk"
def N1:dE P w K mg ad "read_ins" [] 3 1 (iR C CE):=let ⟨_,yn⟩:=Y.yn;Y.e (top 53) ["line","words"] λnd hr=>by walk_at"@#vbucylt)Br,6srs&rvt2sM%ud6swQbyPvtr7tRms)r*Iyuud6swQbyPvtr7tRn{zu0u`"
def zI:dE P w K mg ad "read_outs" [] 3 2 (kG C CE):=let ⟨_,yq⟩:=Y.yq;Y.e (top 55) ["line","wires","words"] λnd hr=>by walk_at"@!vbucBu*t)t2wItBr5wI?b{{vtsnrvt2%ud2vYrYvqud2vYrYvru`sB"
def M9:dE P w K mg ad "read_row" [] 3 2 (mR C CE):=Y.e (top 54) ["line","wire","words","kind","bound"] λnd hr=>by walk_at"@!vbuc&uWu+B{|b`{},r5wI?s&t2-verE56Iwsu+Uwv`IrX%ud2sw-r1-rYms,yQ,t5Uwv`IrXr8ud2sw-r1-rYn|!|#u0u`u!"
def Z8h:dE P w K mg ad "read" [] 4 1 (pD C CE):=let ⟨_,yr⟩:=Y.yr;Y.e (top 52) ["lines","ins","rows","line"] λnd hr=>by walk_at"@sUtBt2r5sU?b|$vtsnt2uKyRktet0m7#v-r8yRktet0nw7v.!svu+cw3sPv]s4uLs(uYu_ySjr:t*u%th8&rYmrT!sF!xqykySjr:t*u%th8&rYn|%|&v.umw5%w6tlrDr6%yTj.tbr}t*u%th81rYm8vNrVZwut5%w6yd62r8yTj.tbr}t*u%th81rYn|(u0u`u!sB"
def qE:dE P w K mg ad "circuit_lines" [] 1 1 (iI C CL):=Y.e (top 61) ["words","lines","word"] λnd hr=>by walk_at"@s;vZrNtmuOrXr`uGruB2rEuOrTr;uP#s42Iy3r;wNqr9uN~line~ti/.tCubs5vp"
def N5:bB P w K mg ad "fault_of" [] 1 1 (pF C):=Y.c (top 66) ["numbers","kind"] λnd hr=>by walk_at"@#uIrNs2ws7UwvuP6IrX.wk,yQuF"
def V2:dE P w K mg ad "bits_of" [] 1 1 (oK C CL):=Y.e (top 65) ["word"] λnd hr=>by walk_at"@uUyMr9.uy~sign~tis7x<w+ubyN,tPtmr9.uy~sign~tir_.u{ubivp"
def rT:dE P w K mg ad "number_of" [] 2 1 (eB C CL):=Y.e (top 64) ["word"] λnd hr=>by walk_at"@%yOrqtPtmr_.u{,ivp"
def uF:dE P w K mg ad "named_parts" [] 3 1 (hG C CL):=Y.e (top 62) ["words","tests"] λnd hr=>by walk_at"@s;vZrNtMvTuTs&rvtm#sF3w;sNbsPrwuMs(~word~[vwUwwkLt0wxsA|)/#r9sPv]uMs(~word~[vwUyUkLt0wxsA|*wju}y6u}|+wHr9sPv]uMs(~word~[vwUyUkLt0wxsA|,|-u0u`"
def oS:dE P w K mg ad "numbers_behind" [] 3 1 (cF C CL):=Y.e (top 63) ["words","form","numbers","word","kind","number"] λnd hr=>by walk_at"@#tg|.br-Ir5sU?vs|/uc6v#tm!svu+cw3sCuorGulUw-.vYrYw.u?vk&u.-vl:%wwkr:&spm7:v-r8wwkr:&spnw7v.BfrEs>5sns=tm!s>IrTr;tkw5!wBr;tku!"
def uD:dE P w K mg ad "taken_apart" [] 4 1 (bU C CL):=Y.e (top 60) ["line","words","numbers"] λnd hr=>by walk_at"@#vbucvau|tmr^/%yVkvcstmvst5/r8yVkvcstn|0u0tuuQyWkvcstvqyWkvcstvrtuu_yXkvumt-v-r8yXkvunw7v.r^/uauWsSuqGr^r^rv/%yY2sDs4uLt+2s4rdsSuqGr^/%yYuHvsGrkIv&uqs5r#tku!sB"
def Zdw:Z8t P w K mg ad CD "say" 11 1 (pX C CL CE CW CD):=Y.yz.m (Y.yk.cl) ["self","line","asked"] λa=>λnd hr=>by walk_at"@yZu_y[kvum7sL!v-r8y[kvunw7vxwyBu*rEy]yZ1sFx,ue%y^ku*r}!spm|1y_1|2r8y^ku*r}!spnc|3vxwy/t5sLwzw{v%y`yaBu*rEy]1sFx,ue%|4uetHr}tIw|y_wzr/r,ypuetHxFs.rKw|ybwzw{v%y`ya|5%ycjuetHr}x6rVmw|ybr8ycjuetHr}x6rVnxKvxwyw{v%v%v%"
def Z2g:C0 P w K mg ad "_law_says" 12 1 (kJ C CL CE CW CD):=Y.dk (top 79) ["_law_desk","_law_line_here","_law_caught","_law_found","e","_law_sorts"] λa=>λnd hr=>by walk_at"@!ua7sL&ua7sL1|6&sF!|7-|8r?r2r3r4|9%|:x)vusHw<sHs?txw}sGw<sGs?txw}r)w<r)s?txw}xPb|;wPttttsNttttttxB|<2v#`IGsL:r?rcuDufx!r0sHsfug|=r0sHsfuh|>r0sHsfuit(r2rcr3x4uf|?r0sGsfugx!r0sGsfuh|Ar0sGsfuit(x3rcr4uf|Br0r)sfug|Cr0r)sfuhx!r0r)sfuitc7sL::sNt(uDuf|Dr0x#ujug|Er0x#ujuh|Fr0x#ujuit(uDuf|Gr0x$ujug|Hr0x$ujuh|Ir0x$ujuitQw,sLBr,r9s>sI~_law_one~[tJ.wTv`srs&r?rcr2rcr3rcr4ufsHukukw?Ux%x&x(ugsGukukw?Ux%x&x(uhr)ukukw?Ux%x&x(uitPrvscsLt,s2/sSZtas)s7s>vy,y7,rdrXt5sL|JtDtDtDtDtDtDtD"
def Z3y:bB P w K mg ad "_law_stream" [] 1 2 (uS C):=Y.c (top 78) ["_law_cell","_law_k","_law_found","_law_j","_law_number_here"] λnd hr=>by walk_at"@!sv7.v^tArnv45stsouY!tdr5.v^?w/5s-5`CCCw/ysCrTq!wBs<ts-rPQQs-.Xs-s-56C6C?6?Xvh5stsouY-rPQQs-ffCs-5`C?r7Xt-skrPs-fXXXrTs<t8!u-p"
def ZbZ{b:Af}{fd:FuncData}(F:FunD K "law" "law" (top 96) b fd):jK P w K mg ad CX0 13 b fd ["_law_script"] (spD K 1 (ZaR C CL CE CW CD)):=F.k (N:=["_law_script","_law_cells","_law_k","_law_line_here","_law_due_here","_law_desk"]) Rn λnd hr=>(Zd1 (eO (iO (Qs 1 (mJ (qp (bN (aC 0) bH (bA (qp aE)))) (aV (aB (qp aE) aP)))))
   (eO (Z9d (i:=2) rfl PassesOwn.never nd rfl (Or.inl rfl) (gH (rs:=[]) (by rfl) (jT Y) (aB (QE.weak (qp (bQ (by rfl) (cI Y) (aC 1)))) (Qn []))) (eO (iO (Qs 3 (Qc (Z8i Y) (aB (QE.weak (Qc (Z3y Y) (aB (Ro (aO (aC 1) (aC 2))) (aB (Qv 2) (Qn [1,2]))))) (Qn [])))))
   (eO (iO (Qs 4 (Qc (Zar Y) (aB (Qv 3) (Qn [3])))))
   (Z2S (i:=5) nd rfl (Or.inl rfl) (ZbH (Z9U Y) (hr.mono (by decide))) λa =>
   (eO (Z73 (Z72 (aW hr) (Z43 (j:=0) (Z2g Y) (hr.mono (by decide)) (.cons (.cons NArgs.nil)) (aB (Qv 5) (aB (Qv 3) (Qn [5,3])))) (aC 4)) (qT (iO (aN (qp oG)))) Z1q)
   (qT (Z73 (QWg.qt (Z9b (Z2R (jA (qp (xN (by rfl) (bG Y) (aC 4) (by rfl) (Z6m Y) PD.boot_list (Z7H _))))) (Z71 (Z72 (aW hr) (Z43 (j:=0) (Z2g Y) (hr.mono (by decide)) (.cons (.cons NArgs.nil)) (aB (Qv 5) (aB (Qv 3) (Qn [5,3])))) (aC 4))))) (qT (iO (aN (qp oG)))) Z1q)))))))
   (qT (iO (aN (qp oG)))))))
end
def head_mk{w:Ak}{K:Frag}{h:Ah}{mg:Str->Aa Ad}{fa:Af}{P:Aj}(X:K.In h)(G:h.Ns mainGlobals mg)(q:mg "law" = some (.ref fa))(L:K=FR.KK w.params)
  {C CD CL CE CW yg yh yi:Af}
  (R:∃f,HD K "law" (top 96) f)
  (O:NoAttr K C "ins")
  (E:NoAttr K C "rows")
  (r:NoAttr K C "outs")
  (y0:HCl K "Circuit" C mF "Circuit.__init__")
  (M:NoAttr K CD "circuit")
  (yk:HCl K "Desk" CD qN "Desk.__init__")
  {J:Tok}(yo:nsIn K mainGlobals "FIGURES" = some (some (.str "0123456789" J)))
  {zu:Tok}(Z:nsIn K mainGlobals "MOST_FIGURES" = some (some (.int 9 zu)))
  {zv:Tok}(T:nsIn K mainGlobals "MOST_INS" = some (some (.int 8 zv)))
  {A:Tok}(Q:nsIn K mainGlobals "MOST_OUTS" = some (some (.int 16 A)))
  {l:Af}{b:Ae DictEntry}{o:Nat}(zx:nsIn K mainGlobals "NUMBERS_BEHIND" = some (some (.ref l))) (y:K.lookup l=some ⟨.type "dict",none,.dict b o,#[]⟩) (zz:PySem.W.KeysLit w.params b.toList) (u0:(l==sysModules)=false) (Y:esK [("fix",1),("not",1),("and",2),("or",2),("xor",2)] b.toList)
  {uc:Tok}(yr:nsIn K mainGlobals "MOST_ROWS" = some (some (.int 60 uc)))
  {j:Af}{n:Ae DictEntry}{p:Nat}(I:nsIn K mainGlobals "FORMS" = some (some (.ref j))) (ue:K.lookup j=some ⟨.type "dict",none,.dict n p,#[]⟩) (uf:(j==sysModules)=false) (ug:esT K P w [([.inr "give",.inl 1],["number"]),([.inr "stuck",.inl 3],["number","bit","number"]),([.inr "leg",.inl 4],["number","bit","bit","number"]),([.inr "faults",.inl 0],[]),([.inr "idle",.inl 0],[]),([.inr "tells",.inl 2],["number","bit"]),([.inr "tells",.inl 3],["number","bit","bit"]),([.inr "lean",.inl 0],[])] n.toList)
  (yz:HMe K "say" CD ZaH "Desk.say")
  (B:nsIn K mainGlobals "NotTold" = some (some (.ref yg)))
  (yu:nsIn K mainGlobals "TooGreat" = some (some (.ref yi)))
  (z0:nsIn K mainGlobals "StuckError" = some (some (.ref yh)))
  (z9:PySem.W.kitOne K (.ref CL) (.ref CE)=some false)
  (za:PySem.W.kitOne K (.ref CW) (.ref CE)=some false)
  (t:PySem.W.kitOne K (.ref CE) (.ref CL)=some false)
  (zc:PySem.W.kitOne K (.ref CW) (.ref CL)=some false)
  (zd:PySem.W.kitOne K (.ref CL) (.ref CW)=some false)
  (ze:PySem.W.kitOne K (.ref CE) (.ref CW)=some false)
  (U:PySem.W.kitOne K (.ref CL) (.ref yg)=some false)
  (zg:PySem.W.kitOne K (.ref CE) (.ref yg)=some false)
  (zh:PySem.W.kitOne K (.ref CW) (.ref yg)=some false)
  (zi:PySem.W.kitOne K (.ref CL) (.ref yi)=some false)
  (S:PySem.W.kitOne K (.ref CE) (.ref yi)=some false)
  (zk:PySem.W.kitOne K (.ref CW) (.ref yi)=some false)
  (yd:HXc K "NoLine" CL yh)
  (N:HXc K "NoCircuit" CE yh)
  (yf:HXc K "NoWire" CW yh)
  (H:(CL==CE)=false) (n1:(CL==CW)=false) (n2:(CE==CW)=false) :
  ∃(fd:FuncData) (m:Ab D->Aa D),(∀(s:Ac) (u:Ad),BindsTo s fd ⟨[u],[]⟩ [("_law_script",u)])/\(∀ns:Ab Int,ns.length<=63->(∀i∈ns,Builtin.Int.intBits i<=1048576)->m [.lst (ns.map D.int)]=some (.bl true)) /\
   ∀ad:Ah,K.In ad->ad.Ns mainGlobals mg->jK P w K mg ad CX0 13 fa fd ["_law_script"] (spD K 1 m):=by
 have a:∀{x:Str}{v:Ad},nsIn K mainGlobals x=some (some v)->mg x=some v:=λe=>mg_of X G e;exact HB.law X G R q (λ_ _=>rfl) (λm=>∀ns:Ab Int,ns.length<=63->(∀i∈ns,Builtin.Int.intBits i<=1048576)->m [.lst (ns.map D.int)]=some (.bl true)) (Z7D (ne_of_beq_false H) (ne_of_beq_false n1) (ne_of_beq_false n2)) λfd F ad KB NB=>ZbZ (P:=P) (C:=C) ⟨⟨L,⟨_,X,G⟩,KB⟩,O,E,r,y0,M,yk,⟨_,a yo⟩,⟨_,a Z⟩,⟨_,a T⟩,⟨_,a Q⟩,⟨⟨l,b,o,a zx,y,zz,u0,Y⟩⟩,⟨_,a yr⟩,⟨⟨j,n,p,a I,ue,uf,ug,by decide +kernel⟩⟩,yz,B,yu,z0,z9,za,t,zc,zd,ze,U,zg,zh,zi,S,zk,yd,N,yf⟩ F
end G
open PySem PySem.W PyProof.Rows
set_option maxRecDepth 100000 in
set_option maxHeartbeats 0 in
theorem PySem.Challenge.cw_stuckwire_k60_lines_read_holds : PySem.Challenge.rw_stuckwire_k60_lines_read.Holds := by
  w_on; o_law
  refine holds_open (q := FR.qK) (loose := FR.looseK) (Xt := fun s => xlAt FR.qK [] s && recOk (RowW.records PySem.Challenge.rw_stuckwire_k60_lines_read.row.toRowW) s) (XP := XL FR.qK []) (Yf := Hook.obs (kHook FR.KK FR.asK FR.asK_eq)) (Ya := Hook.val (kHook FR.KK FR.asK FR.asK_eq)) (YP := Hook.says (kHook FR.KK FR.asK FR.asK_eq)) (N := 8898) FR.leftK (Hook.of (kHook FR.KK FR.asK FR.asK_eq)) (Hook.keeps (kHook FR.KK FR.asK FR.asK_eq)) (fun s e => xl_of s (Bool.and_eq_true_iff.mp e).1) XL.keeps (by rfl) (by rfl) (by rfl) (fun s e => recFacts_of (Bool.and_eq_true_iff.mp e).2) (by rfl) (by first | assumption | decide +kernel) (by decide +kernel) ⟨rfl, rfl, rfl, rfl, rfl, by decide +kernel⟩ ?hw ?hc
  case hw => w_witness2
  k_fill
  refine PD.walkD (l := PySem.Challenge.rw_stuckwire_k60_lines_read) (n := 63) (k := 13) (x := "_law_script") rfl (by decide) rfl ⟨rfl, by decide, by decide⟩ (fun w h Y => PySem.W.kIn_of Y) ?F
  case F =>
    intro w mg fa h f b a
    apply G.head_mk f b a rfl
    any_goals k_is
    any_goals (apply Exists.intro; apply PD.HD.mk <;> k_is)
    any_goals (apply PD.HCl.mk <;> k_is)
    try any_goals k_is
    any_goals (apply PD.HMe.mk <;> k_is)
    any_goals (apply PD.HXc.mk <;> first | k_is | rfl | decide +kernel | (apply PD.HXs.mk <;> first | k_is | rfl | decide +kernel))
    any_goals (apply PD.kit_o <;> first | k_is | decide +kernel)
    all_goals first | rfl | decide +kernel | (refine ⟨?_,?_,?_,?_,?_,?_,?_,?_,trivial⟩ <;> exact ⟨_, _, rfl, ⟨_, _, _, by k_is, rfl, rfl, by decide, by repeat (first | exact .nil | refine .cons ⟨_, rfl⟩ ?_)⟩, _, _, _, by k_is, rfl, rfl, by decide, by repeat (first | exact .nil | refine .cons ⟨_, rfl⟩ ?_)⟩) | (exact ⟨⟨_, _, rfl, rfl⟩, ⟨_, _, rfl, rfl⟩, ⟨_, _, rfl, rfl⟩, ⟨_, _, rfl, rfl⟩, ⟨_, _, rfl, rfl⟩, trivial⟩) | (exact ⟨⟨⟨_, rfl⟩, _, rfl⟩, ⟨⟨_, rfl⟩, _, rfl⟩, ⟨⟨_, rfl⟩, _, rfl⟩, ⟨⟨_, rfl⟩, _, rfl⟩, ⟨⟨_, rfl⟩, _, rfl⟩, trivial⟩)
